import Derived.Test.YtlgmpnaalifegaaWalks6
import Derived.Deep.RegionWith
namespace Go.Proofs.Ytlgmpnaalifegaa
namespace memCopies
open Go.RowKit

def Post (w : World) (e : Ending) (w' : World) : Prop := e = .returned (.bool true) ∧ Below w.heap.size w w'

set_option maxHeartbeats 400000 in
theorem walk_big (s : ByteArray) (d r n : Int) (p : Int) (w : World) (hs : s.size ≤ maxLen) (h : 134217728 < s.size) :
    Calls Try.prog 7 #[.string s, .int .i64 d, .int .i64 r, .int .i64 n, .int .i64 p] w fun e w' => Post w e w' := by
  have hm := made_no s w hs h
  have hd : (134217728 : Int) < (s.size : Int) := by omega
  unfold maxLen at hs
  go_enter Try.func7, Try.ntmps7
  go_wp2_with fail
  refine hm.mono ?_
  rintro e w' ⟨rfl, rfl⟩
  clear hm
  go_wp2_with fail
  go_ret
  exact ⟨rfl, Below.refl _ _⟩

set_option maxHeartbeats 400000 in
theorem no1_neg (s : ByteArray) (d r n : Int) (p : Int) (w : World) (h : s.size ≤ 134217728) (hp : p < 0) (h1 : insideB s.size d n = false) :
    Calls Try.prog 7 #[.string s, .int .i64 d, .int .i64 r, .int .i64 n, .int .i64 p] w fun e w' => Post w e w' := by
  have hm := made_yes s w h
  have hl : s.data.toList.length = s.size := by simp
  have hok : (insideB s.size d n && insideB s.size r n) = false := by rw [h1]; rfl
  have hin := fun W => lawin_no W s.size (by omega) d n h1
  have HO : Hid ((insideB s.size d n && insideB s.size r n) = false) := hok
  clear h1 hok
  go_enter Try.func7, Try.ntmps7
  go_wp2_with fail
  refine hm.mono ?_
  rintro e w1 ⟨b, g, hb, hg, rfl, m, k⟩
  clear hm
  go_wp2_with fail
  refine (copy_no _ b g _ _ m d r n (by rw [hl]; exact HO.out)).mono ?_
  rintro e w2 ⟨rfl, rfl⟩
  go_wp2_with fail
  refine (hin _).mono ?_
  rintro e w2 ⟨rfl, rfl⟩
  clear hin
  have hat := at_no _ b g _ _ m p (by omega)
  go_wp2_with fail
  refine hat.mono ?_
  rintro e w3 ⟨rfl, k3⟩
  clear hat
  go_wp2_with fail
  go_ret
  exact ⟨rfl, (k.trans k3 (fun _ _ x => x)).below (Nat.le_refl _) (fun _ _ => id)⟩

set_option maxHeartbeats 400000 in
theorem no1_big (s : ByteArray) (d r n : Int) (p : Int) (w : World) (h : s.size ≤ 134217728) (hp : (s.size : Int) ≤ p) (h1 : insideB s.size d n = false) :
    Calls Try.prog 7 #[.string s, .int .i64 d, .int .i64 r, .int .i64 n, .int .i64 p] w fun e w' => Post w e w' := by
  have hm := made_yes s w h
  have hl : s.data.toList.length = s.size := by simp
  have hp0 : ¬ p < 0 := by omega
  have hok : (insideB s.size d n && insideB s.size r n) = false := by rw [h1]; rfl
  have hin := fun W => lawin_no W s.size (by omega) d n h1
  have HO : Hid ((insideB s.size d n && insideB s.size r n) = false) := hok
  clear h1 hok
  go_enter Try.func7, Try.ntmps7
  go_wp2_with fail
  refine hm.mono ?_
  rintro e w1 ⟨b, g, hb, hg, rfl, m, k⟩
  clear hm
  go_wp2_with fail
  refine (copy_no _ b g _ _ m d r n (by rw [hl]; exact HO.out)).mono ?_
  rintro e w2 ⟨rfl, rfl⟩
  go_wp2_with fail
  refine (hin _).mono ?_
  rintro e w2 ⟨rfl, rfl⟩
  clear hin
  have hat := at_no _ b g _ _ m p (by rw [hl]; omega)
  go_wp2_with fail
  refine hat.mono ?_
  rintro e w3 ⟨rfl, k3⟩
  clear hat
  go_wp2_with fail
  go_ret
  exact ⟨rfl, (k.trans k3 (fun _ _ x => x)).below (Nat.le_refl _) (fun _ _ => id)⟩

set_option maxHeartbeats 400000 in
theorem no1_in (s : ByteArray) (d r n : Int) (q : Nat) (w : World) (h : s.size ≤ 134217728) (hq : q < s.size) (h1 : insideB s.size d n = false) :
    Calls Try.prog 7 #[.string s, .int .i64 d, .int .i64 r, .int .i64 n, .int .i64 (q : Int)] w fun e w' => Post w e w' := by
  have hm := made_yes s w h
  have hl : s.data.toList.length = s.size := by simp
  have hp0 : ¬ (q : Int) < 0 := by omega
  have hp1 : ¬ (s.size : Int) ≤ (q : Int) := by omega
  have hw8 := wrap_byte (s[q]'hq)
  have hok : (insideB s.size d n && insideB s.size r n) = false := by rw [h1]; rfl
  have hin := fun W => lawin_no W s.size (by omega) d n h1
  have HO : Hid ((insideB s.size d n && insideB s.size r n) = false) := hok
  clear h1 hok
  go_enter Try.func7, Try.ntmps7
  go_wp2_with fail
  refine hm.mono ?_
  rintro e w1 ⟨b, g, hb, hg, rfl, m, k⟩
  clear hm
  go_wp2_with fail
  refine (copy_no _ b g _ _ m d r n (by rw [hl]; exact HO.out)).mono ?_
  rintro e w2 ⟨rfl, rfl⟩
  go_wp2_with fail
  refine (hin _).mono ?_
  rintro e w2 ⟨rfl, rfl⟩
  clear hin
  have hat := fun W (mW : MemAt 47 5 W b g s.data.toList []) => at_yes W b g s.data.toList [] mW q (by rw [hl]; exact hq) (s[q]'hq) (byte_get s q hq _)
  go_wp2_with fail
  go_region_with (go_at_call 13; refine (hat _ ?_).mono ?_; exact m.drew; rintro e w3 ⟨rfl, k3⟩)
  all_goals clear hat
  all_goals go_wp2
  all_goals go_ret
  all_goals refine ⟨?_, ((k.drew).trans k3 (fun _ _ x => x)).below (Nat.le_refl _) (fun _ _ => id)⟩
  all_goals first | rfl | (simp [Act.put, hw8]; done)

set_option maxHeartbeats 400000 in
theorem no2_neg (s : ByteArray) (d r n : Int) (p : Int) (w : World) (h : s.size ≤ 134217728) (hp : p < 0) (h1 : insideB s.size d n = true) (h2 : insideB s.size r n = false) :
    Calls Try.prog 7 #[.string s, .int .i64 d, .int .i64 r, .int .i64 n, .int .i64 p] w fun e w' => Post w e w' := by
  have hm := made_yes s w h
  have hl : s.data.toList.length = s.size := by simp
  have hok : (insideB s.size d n && insideB s.size r n) = false := by rw [h1, h2]; rfl
  have hin := fun W => lawin_yes W s.size (by omega) d n h1
  have hin2 := fun W => lawin_no W s.size (by omega) r n h2
  have HO : Hid ((insideB s.size d n && insideB s.size r n) = false) := hok
  clear h1 h2 hok
  go_enter Try.func7, Try.ntmps7
  go_wp2_with fail
  refine hm.mono ?_
  rintro e w1 ⟨b, g, hb, hg, rfl, m, k⟩
  clear hm
  go_wp2_with fail
  refine (copy_no _ b g _ _ m d r n (by rw [hl]; exact HO.out)).mono ?_
  rintro e w2 ⟨rfl, rfl⟩
  go_wp2_with fail
  refine (hin _).mono ?_
  rintro e w2 ⟨rfl, rfl⟩
  clear hin
  go_wp2_with fail
  refine (hin2 _).mono ?_
  rintro e w2 ⟨rfl, rfl⟩
  clear hin2
  have hat := at_no _ b g _ _ m p (by omega)
  go_wp2_with fail
  refine hat.mono ?_
  rintro e w3 ⟨rfl, k3⟩
  clear hat
  go_wp2_with fail
  go_ret
  exact ⟨rfl, (k.trans k3 (fun _ _ x => x)).below (Nat.le_refl _) (fun _ _ => id)⟩

set_option maxHeartbeats 400000 in
theorem no2_big (s : ByteArray) (d r n : Int) (p : Int) (w : World) (h : s.size ≤ 134217728) (hp : (s.size : Int) ≤ p) (h1 : insideB s.size d n = true) (h2 : insideB s.size r n = false) :
    Calls Try.prog 7 #[.string s, .int .i64 d, .int .i64 r, .int .i64 n, .int .i64 p] w fun e w' => Post w e w' := by
  have hm := made_yes s w h
  have hl : s.data.toList.length = s.size := by simp
  have hp0 : ¬ p < 0 := by omega
  have hok : (insideB s.size d n && insideB s.size r n) = false := by rw [h1, h2]; rfl
  have hin := fun W => lawin_yes W s.size (by omega) d n h1
  have hin2 := fun W => lawin_no W s.size (by omega) r n h2
  have HO : Hid ((insideB s.size d n && insideB s.size r n) = false) := hok
  clear h1 h2 hok
  go_enter Try.func7, Try.ntmps7
  go_wp2_with fail
  refine hm.mono ?_
  rintro e w1 ⟨b, g, hb, hg, rfl, m, k⟩
  clear hm
  go_wp2_with fail
  refine (copy_no _ b g _ _ m d r n (by rw [hl]; exact HO.out)).mono ?_
  rintro e w2 ⟨rfl, rfl⟩
  go_wp2_with fail
  refine (hin _).mono ?_
  rintro e w2 ⟨rfl, rfl⟩
  clear hin
  go_wp2_with fail
  refine (hin2 _).mono ?_
  rintro e w2 ⟨rfl, rfl⟩
  clear hin2
  have hat := at_no _ b g _ _ m p (by rw [hl]; omega)
  go_wp2_with fail
  refine hat.mono ?_
  rintro e w3 ⟨rfl, k3⟩
  clear hat
  go_wp2_with fail
  go_ret
  exact ⟨rfl, (k.trans k3 (fun _ _ x => x)).below (Nat.le_refl _) (fun _ _ => id)⟩

set_option maxHeartbeats 400000 in
theorem no2_in (s : ByteArray) (d r n : Int) (q : Nat) (w : World) (h : s.size ≤ 134217728) (hq : q < s.size) (h1 : insideB s.size d n = true) (h2 : insideB s.size r n = false) :
    Calls Try.prog 7 #[.string s, .int .i64 d, .int .i64 r, .int .i64 n, .int .i64 (q : Int)] w fun e w' => Post w e w' := by
  have hm := made_yes s w h
  have hl : s.data.toList.length = s.size := by simp
  have hp0 : ¬ (q : Int) < 0 := by omega
  have hp1 : ¬ (s.size : Int) ≤ (q : Int) := by omega
  have hw8 := wrap_byte (s[q]'hq)
  have hok : (insideB s.size d n && insideB s.size r n) = false := by rw [h1, h2]; rfl
  have hin := fun W => lawin_yes W s.size (by omega) d n h1
  have hin2 := fun W => lawin_no W s.size (by omega) r n h2
  have HO : Hid ((insideB s.size d n && insideB s.size r n) = false) := hok
  clear h1 h2 hok
  go_enter Try.func7, Try.ntmps7
  go_wp2_with fail
  refine hm.mono ?_
  rintro e w1 ⟨b, g, hb, hg, rfl, m, k⟩
  clear hm
  go_wp2_with fail
  refine (copy_no _ b g _ _ m d r n (by rw [hl]; exact HO.out)).mono ?_
  rintro e w2 ⟨rfl, rfl⟩
  go_wp2_with fail
  refine (hin _).mono ?_
  rintro e w2 ⟨rfl, rfl⟩
  clear hin
  go_wp2_with fail
  refine (hin2 _).mono ?_
  rintro e w2 ⟨rfl, rfl⟩
  clear hin2
  have hat := fun W (mW : MemAt 47 5 W b g s.data.toList []) => at_yes W b g s.data.toList [] mW q (by rw [hl]; exact hq) (s[q]'hq) (byte_get s q hq _)
  go_wp2_with fail
  go_region_with (go_at_call 13; refine (hat _ ?_).mono ?_; exact m.drew; rintro e w3 ⟨rfl, k3⟩)
  all_goals clear hat
  all_goals go_wp2
  all_goals go_ret
  all_goals refine ⟨?_, ((k.drew).trans k3 (fun _ _ x => x)).below (Nat.le_refl _) (fun _ _ => id)⟩
  all_goals first | rfl | (simp [Act.put, hw8]; done)

set_option maxHeartbeats 400000 in
theorem yes_neg (s : ByteArray) (d r n : Nat) (p : Int) (w : World) (h : s.size ≤ 134217728) (h1 : d + n ≤ s.size) (h2 : r + n ≤ s.size) (hp : p < 0) :
    Calls Try.prog 7 #[.string s, .int .i64 (d : Int), .int .i64 (r : Int), .int .i64 (n : Int), .int .i64 p] w fun e w' => Post w e w' := by
  have hm := made_yes s w h
  have hl : s.data.toList.length = s.size := by simp
  have hin := fun W => lawin_yes W s.size (by omega) d n (insideB_mk h1)
  have hin2 := fun W => lawin_yes W s.size (by omega) r n (insideB_mk h2)
  have hcl : ((s.data.toList.drop r).take n).length = n := by simp; omega
  have hsl : (splice s.data.toList d ((s.data.toList.drop r).take n)).length = s.size := by rw [splice_length (by rw [hcl, hl]; exact h1), hl]
  generalize hbs : splice s.data.toList d ((s.data.toList.drop r).take n) = bs at *
  have HB : Hid (splice s.data.toList d ((s.data.toList.drop r).take n) = bs) := hbs
  clear hbs hcl
  go_enter Try.func7, Try.ntmps7
  go_wp2_with fail
  refine hm.mono ?_
  rintro e w1 ⟨b, g, hb, hg, rfl, m, k⟩
  clear hm
  go_wp2_with fail
  have hcy := copy_yes _ b g _ _ m d r n (by rw [hl]; exact h1) (by rw [hl]; exact h2)
  rw [HB.out] at hcy
  refine hcy.mono ?_
  rintro e w2 ⟨rfl, m2, k2⟩
  clear hcy
  replace k := k.trans k2 (fun i hi e => by omega)
  clear m k2
  have m := m2
  clear m2
  go_wp2_with fail
  refine (hin _).mono ?_
  rintro e w2 ⟨rfl, rfl⟩
  clear hin
  go_wp2_with fail
  refine (hin2 _).mono ?_
  rintro e w2 ⟨rfl, rfl⟩
  clear hin2
  have hat := at_no _ b g _ _ m p (by omega)
  go_wp2_with fail
  refine hat.mono ?_
  rintro e w3 ⟨rfl, k3⟩
  clear hat
  go_wp2_with fail
  go_ret
  exact ⟨rfl, (k.trans k3 (fun _ _ x => x)).below (Nat.le_refl _) (fun _ _ => id)⟩

set_option maxHeartbeats 400000 in
theorem yes_big (s : ByteArray) (d r n : Nat) (p : Int) (w : World) (h : s.size ≤ 134217728) (h1 : d + n ≤ s.size) (h2 : r + n ≤ s.size) (hp : (s.size : Int) ≤ p) :
    Calls Try.prog 7 #[.string s, .int .i64 (d : Int), .int .i64 (r : Int), .int .i64 (n : Int), .int .i64 p] w fun e w' => Post w e w' := by
  have hm := made_yes s w h
  have hl : s.data.toList.length = s.size := by simp
  have hp0 : ¬ p < 0 := by omega
  have hin := fun W => lawin_yes W s.size (by omega) d n (insideB_mk h1)
  have hin2 := fun W => lawin_yes W s.size (by omega) r n (insideB_mk h2)
  have hcl : ((s.data.toList.drop r).take n).length = n := by simp; omega
  have hsl : (splice s.data.toList d ((s.data.toList.drop r).take n)).length = s.size := by rw [splice_length (by rw [hcl, hl]; exact h1), hl]
  generalize hbs : splice s.data.toList d ((s.data.toList.drop r).take n) = bs at *
  have HB : Hid (splice s.data.toList d ((s.data.toList.drop r).take n) = bs) := hbs
  clear hbs hcl
  go_enter Try.func7, Try.ntmps7
  go_wp2_with fail
  refine hm.mono ?_
  rintro e w1 ⟨b, g, hb, hg, rfl, m, k⟩
  clear hm
  go_wp2_with fail
  have hcy := copy_yes _ b g _ _ m d r n (by rw [hl]; exact h1) (by rw [hl]; exact h2)
  rw [HB.out] at hcy
  refine hcy.mono ?_
  rintro e w2 ⟨rfl, m2, k2⟩
  clear hcy
  replace k := k.trans k2 (fun i hi e => by omega)
  clear m k2
  have m := m2
  clear m2
  go_wp2_with fail
  refine (hin _).mono ?_
  rintro e w2 ⟨rfl, rfl⟩
  clear hin
  go_wp2_with fail
  refine (hin2 _).mono ?_
  rintro e w2 ⟨rfl, rfl⟩
  clear hin2
  have hat := at_no _ b g _ _ m p (by rw [hsl]; omega)
  go_wp2_with fail
  refine hat.mono ?_
  rintro e w3 ⟨rfl, k3⟩
  clear hat
  go_wp2_with fail
  go_ret
  exact ⟨rfl, (k.trans k3 (fun _ _ x => x)).below (Nat.le_refl _) (fun _ _ => id)⟩

set_option maxHeartbeats 400000 in
theorem yes_lo (s : ByteArray) (d r n : Nat) (q : Nat) (w : World) (h : s.size ≤ 134217728) (h1 : d + n ≤ s.size) (h2 : r + n ≤ s.size) (hq : q < s.size) (hqd : q < d) :
    Calls Try.prog 7 #[.string s, .int .i64 (d : Int), .int .i64 (r : Int), .int .i64 (n : Int), .int .i64 (q : Int)] w fun e w' => Post w e w' := by
  have hm := made_yes s w h
  have hl : s.data.toList.length = s.size := by simp
  have hp0 : ¬ (q : Int) < 0 := by omega
  have hp1 : ¬ (s.size : Int) ≤ (q : Int) := by omega
  have hp2 : ¬ (d : Int) ≤ (q : Int) := by omega
  have hw8 := wrap_byte (s[q]'hq)
  have hin := fun W => lawin_yes W s.size (by omega) d n (insideB_mk h1)
  have hin2 := fun W => lawin_yes W s.size (by omega) r n (insideB_mk h2)
  have hcl : ((s.data.toList.drop r).take n).length = n := by simp; omega
  have hsl : (splice s.data.toList d ((s.data.toList.drop r).take n)).length = s.size := by rw [splice_length (by rw [hcl, hl]; exact h1), hl]
  have hx : (splice s.data.toList d ((s.data.toList.drop r).take n))[q]'(by rw [hsl]; exact hq) = s[q]'hq := by
    apply Option.some.inj
    rw [← List.getElem?_eq_getElem, splice_get (by rw [hcl, hl]; exact h1), if_neg (by rw [hcl]; omega), List.getElem?_eq_getElem (by rw [hl]; exact hq), byte_get s q hq]
  have HX : Hid ((splice s.data.toList d ((s.data.toList.drop r).take n))[q]'(by rw [hsl]; exact hq) = s[q]'hq) := hx
  clear hx
  generalize hbs : splice s.data.toList d ((s.data.toList.drop r).take n) = bs at *
  have HB : Hid (splice s.data.toList d ((s.data.toList.drop r).take n) = bs) := hbs
  clear hbs hcl
  go_enter Try.func7, Try.ntmps7
  go_wp2_with fail
  refine hm.mono ?_
  rintro e w1 ⟨b, g, hb, hg, rfl, m, k⟩
  clear hm
  go_wp2_with fail
  have hcy := copy_yes _ b g _ _ m d r n (by rw [hl]; exact h1) (by rw [hl]; exact h2)
  rw [HB.out] at hcy
  refine hcy.mono ?_
  rintro e w2 ⟨rfl, m2, k2⟩
  clear hcy
  replace k := k.trans k2 (fun i hi e => by omega)
  clear m k2
  have m := m2
  clear m2
  go_wp2_with fail
  refine (hin _).mono ?_
  rintro e w2 ⟨rfl, rfl⟩
  clear hin
  go_wp2_with fail
  refine (hin2 _).mono ?_
  rintro e w2 ⟨rfl, rfl⟩
  clear hin2
  have hat := fun W (mW : MemAt 47 5 W b g bs []) => at_yes W b g bs [] mW q (by rw [hsl]; exact hq) (s[q]'hq) (HX)
  go_wp2_with fail
  go_region_with (go_at_call 13; refine (hat _ ?_).mono ?_; exact m.drew; rintro e w3 ⟨rfl, k3⟩)
  all_goals clear hat
  all_goals go_wp2
  all_goals go_ret
  all_goals refine ⟨?_, ((k.drew).trans k3 (fun _ _ x => x)).below (Nat.le_refl _) (fun _ _ => id)⟩
  all_goals first | rfl | (simp [Act.put, hw8]; done)

set_option maxHeartbeats 400000 in
theorem yes_hi (s : ByteArray) (d r n : Nat) (q : Nat) (w : World) (h : s.size ≤ 134217728) (h1 : d + n ≤ s.size) (h2 : r + n ≤ s.size) (hq : q < s.size) (hqd : d + n ≤ q) :
    Calls Try.prog 7 #[.string s, .int .i64 (d : Int), .int .i64 (r : Int), .int .i64 (n : Int), .int .i64 (q : Int)] w fun e w' => Post w e w' := by
  have hm := made_yes s w h
  have hl : s.data.toList.length = s.size := by simp
  have hp0 : ¬ (q : Int) < 0 := by omega
  have hp1 : ¬ (s.size : Int) ≤ (q : Int) := by omega
  have hp2 : (d : Int) ≤ (q : Int) := by omega
  have hp3 : ¬ (q : Int) < (d : Int) + (n : Int) := by omega
  have hw8 := wrap_byte (s[q]'hq)
  have hin := fun W => lawin_yes W s.size (by omega) d n (insideB_mk h1)
  have hin2 := fun W => lawin_yes W s.size (by omega) r n (insideB_mk h2)
  have hcl : ((s.data.toList.drop r).take n).length = n := by simp; omega
  have hsl : (splice s.data.toList d ((s.data.toList.drop r).take n)).length = s.size := by rw [splice_length (by rw [hcl, hl]; exact h1), hl]
  have hx : (splice s.data.toList d ((s.data.toList.drop r).take n))[q]'(by rw [hsl]; exact hq) = s[q]'hq := by
    apply Option.some.inj
    rw [← List.getElem?_eq_getElem, splice_get (by rw [hcl, hl]; exact h1), if_neg (by rw [hcl]; omega), List.getElem?_eq_getElem (by rw [hl]; exact hq), byte_get s q hq]
  have HX : Hid ((splice s.data.toList d ((s.data.toList.drop r).take n))[q]'(by rw [hsl]; exact hq) = s[q]'hq) := hx
  clear hx
  generalize hbs : splice s.data.toList d ((s.data.toList.drop r).take n) = bs at *
  have HB : Hid (splice s.data.toList d ((s.data.toList.drop r).take n) = bs) := hbs
  clear hbs hcl
  go_enter Try.func7, Try.ntmps7
  go_wp2_with fail
  refine hm.mono ?_
  rintro e w1 ⟨b, g, hb, hg, rfl, m, k⟩
  clear hm
  go_wp2_with fail
  have hcy := copy_yes _ b g _ _ m d r n (by rw [hl]; exact h1) (by rw [hl]; exact h2)
  rw [HB.out] at hcy
  refine hcy.mono ?_
  rintro e w2 ⟨rfl, m2, k2⟩
  clear hcy
  replace k := k.trans k2 (fun i hi e => by omega)
  clear m k2
  have m := m2
  clear m2
  go_wp2_with fail
  refine (hin _).mono ?_
  rintro e w2 ⟨rfl, rfl⟩
  clear hin
  go_wp2_with fail
  refine (hin2 _).mono ?_
  rintro e w2 ⟨rfl, rfl⟩
  clear hin2
  have hat := fun W (mW : MemAt 47 5 W b g bs []) => at_yes W b g bs [] mW q (by rw [hsl]; exact hq) (s[q]'hq) (HX)
  go_wp2_with fail
  go_region_with (go_at_call 13; refine (hat _ ?_).mono ?_; exact m.drew; rintro e w3 ⟨rfl, k3⟩)
  all_goals clear hat
  all_goals go_wp2
  all_goals go_ret
  all_goals refine ⟨?_, ((k.drew).trans k3 (fun _ _ x => x)).below (Nat.le_refl _) (fun _ _ => id)⟩
  all_goals first | rfl | (simp [Act.put, hw8]; done)

set_option maxHeartbeats 400000 in
theorem yes_span (s : ByteArray) (d r n : Nat) (q i : Nat) (w : World) (h : s.size ≤ 134217728) (h1 : d + n ≤ s.size) (h2 : r + n ≤ s.size) (hq : q < s.size) (hqd : q = d + i) (hi : i < n) :
    Calls Try.prog 7 #[.string s, .int .i64 (d : Int), .int .i64 (r : Int), .int .i64 (n : Int), .int .i64 (q : Int)] w fun e w' => Post w e w' := by
  have hm := made_yes s w h
  have hl : s.data.toList.length = s.size := by simp
  have hp0 : ¬ (q : Int) < 0 := by omega
  have hp1 : ¬ (s.size : Int) ≤ (q : Int) := by omega
  have hp2 : (d : Int) ≤ (q : Int) := by omega
  have hp3 : (q : Int) < (d : Int) + (n : Int) := by omega
  have hri : r + i < s.size := by omega
  have hlo : 0 ≤ (r : Int) + ((q : Int) - (d : Int)) := by omega
  have hhi : (r : Int) + ((q : Int) - (d : Int)) < (s.size : Int) := by omega
  have hj : ((r : Int) + ((q : Int) - (d : Int))).toNat < s.size := by omega
  have hwa : IntKind.i64.wrap ((q : Int) - (d : Int)) = (q : Int) - (d : Int) := by rw [IntKind.wrap_i64]; omega
  have hwb : IntKind.i64.wrap ((r : Int) + ((q : Int) - (d : Int))) = (r : Int) + ((q : Int) - (d : Int)) := by rw [IntKind.wrap_i64]; omega
  have hw8 := wrap_byte (s[((r : Int) + ((q : Int) - (d : Int))).toNat]'hj)
  have hin := fun W => lawin_yes W s.size (by omega) d n (insideB_mk h1)
  have hin2 := fun W => lawin_yes W s.size (by omega) r n (insideB_mk h2)
  have hcl : ((s.data.toList.drop r).take n).length = n := by simp; omega
  have hsl : (splice s.data.toList d ((s.data.toList.drop r).take n)).length = s.size := by rw [splice_length (by rw [hcl, hl]; exact h1), hl]
  have hx : (splice s.data.toList d ((s.data.toList.drop r).take n))[q]'(by rw [hsl]; exact hq) = s[r + i]'hri := by
    apply Option.some.inj
    rw [← List.getElem?_eq_getElem, splice_get (by rw [hcl, hl]; exact h1), if_pos (by rw [hcl]; omega), show q - d = i from by omega, List.getElem?_take_of_lt hi, List.getElem?_drop, List.getElem?_eq_getElem (by rw [hl]; exact hri), byte_get s (r + i) hri]
  have HX : Hid ((splice s.data.toList d ((s.data.toList.drop r).take n))[q]'(by rw [hsl]; exact hq) = s[((r : Int) + ((q : Int) - (d : Int))).toNat]'hj) := by
    have : ∀ j (hj : j < s.size), j = r + i → (splice s.data.toList d ((s.data.toList.drop r).take n))[q]'(by rw [hsl]; exact hq) = s[j]'hj := by rintro j hj rfl; exact hx
    exact this _ hj (by omega)
  clear hx hqd
  generalize hbs : splice s.data.toList d ((s.data.toList.drop r).take n) = bs at *
  have HB : Hid (splice s.data.toList d ((s.data.toList.drop r).take n) = bs) := hbs
  clear hbs hcl
  go_enter Try.func7, Try.ntmps7
  go_wp2_with fail
  refine hm.mono ?_
  rintro e w1 ⟨b, g, hb, hg, rfl, m, k⟩
  clear hm
  go_wp2_with fail
  have hcy := copy_yes _ b g _ _ m d r n (by rw [hl]; exact h1) (by rw [hl]; exact h2)
  rw [HB.out] at hcy
  refine hcy.mono ?_
  rintro e w2 ⟨rfl, m2, k2⟩
  clear hcy
  replace k := k.trans k2 (fun i hi e => by omega)
  clear m k2
  have m := m2
  clear m2
  go_wp2_with fail
  refine (hin _).mono ?_
  rintro e w2 ⟨rfl, rfl⟩
  clear hin
  go_wp2_with fail
  refine (hin2 _).mono ?_
  rintro e w2 ⟨rfl, rfl⟩
  clear hin2
  have hat := fun W (mW : MemAt 47 5 W b g bs []) => at_yes W b g bs [] mW q (by rw [hsl]; exact hq) (s[((r : Int) + ((q : Int) - (d : Int))).toNat]'hj) (HX)
  go_wp2_with fail
  go_region_with (go_at_call 13; refine (hat _ ?_).mono ?_; exact m.drew; rintro e w3 ⟨rfl, k3⟩)
  all_goals clear hat
  all_goals go_wp2
  all_goals go_ret
  all_goals refine ⟨?_, ((k.drew).trans k3 (fun _ _ x => x)).below (Nat.le_refl _) (fun _ _ => id)⟩
  all_goals first | rfl | (simp [Act.put, hw8]; done)

theorem walk (a0 : ByteArray) (a1 : Int) (a2 : Int) (a3 : Int) (a4 : Int) (w0 : a0.size ≤ maxLen) (_ : (Lit.int .i64 a1).wf = true) (_ : (Lit.int .i64 a2).wf = true) (_ : (Lit.int .i64 a3).wf = true) (_ : (Lit.int .i64 a4).wf = true) (w : World) :
    Calls Try.prog 7 #[.string a0, .int .i64 a1, .int .i64 a2, .int .i64 a3, .int .i64 a4] w fun e w' => e = .returned (.bool true) ∧ Below w.heap.size w w' := by
  by_cases h : 134217728 < a0.size
  · exact walk_big a0 a1 a2 a3 a4 w w0 h
  replace h : a0.size ≤ 134217728 := by omega
  have hp : a4 < 0 ∨ (a0.size : Int) ≤ a4 ∨ ∃ q : Nat, a4 = q ∧ q < a0.size := by
    by_cases h0 : a4 < 0
    · exact Or.inl h0
    · by_cases h1 : (a0.size : Int) ≤ a4
      · exact Or.inr (Or.inl h1)
      · exact Or.inr (Or.inr ⟨a4.toNat, by omega, by omega⟩)
  cases h1 : insideB a0.size a1 a3
  · rcases hp with hp | hp | ⟨q, rfl, hq⟩
    · exact no1_neg a0 a1 a2 a3 a4 w h hp h1
    · exact no1_big a0 a1 a2 a3 a4 w h hp h1
    · exact no1_in a0 a1 a2 a3 q w h hq h1
  cases h2 : insideB a0.size a2 a3
  · rcases hp with hp | hp | ⟨q, rfl, hq⟩
    · exact no2_neg a0 a1 a2 a3 a4 w h hp h1 h2
    · exact no2_big a0 a1 a2 a3 a4 w h hp h1 h2
    · exact no2_in a0 a1 a2 a3 q w h hq h1 h2
  obtain ⟨d, n, rfl, rfl, hd⟩ := insideB_nat h1
  obtain ⟨r, n', rfl, hn, hr⟩ := insideB_nat h2
  have hn' : n' = n := by omega
  subst hn'
  rcases hp with hp | hp | ⟨q, rfl, hq⟩
  · exact yes_neg a0 d r n' a4 w h hd hr hp
  · exact yes_big a0 d r n' a4 w h hd hr hp
  · by_cases h3 : q < d
    · exact yes_lo a0 d r n' q w h hd hr hq h3
    · by_cases h4 : d + n' ≤ q
      · exact yes_hi a0 d r n' q w h hd hr hq h4
      · exact yes_span a0 d r n' q (q - d) w h hd hr hq (by omega) (by omega)
end memCopies
end Go.Proofs.Ytlgmpnaalifegaa
