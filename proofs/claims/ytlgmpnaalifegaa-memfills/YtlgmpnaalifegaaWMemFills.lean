import Derived.Test.YtlgmpnaalifegaaWalks7
import Derived.Deep.RegionWith
namespace Go.Proofs.Ytlgmpnaalifegaa
namespace memFills
open Go.RowKit

def Post (w : World) (e : Ending) (w' : World) : Prop := e = .returned (.bool true) ∧ Below w.heap.size w w'

set_option maxHeartbeats 400000 in
theorem walk_big (s : ByteArray) (d n x : Int) (p : Int) (w : World) (hs : s.size ≤ maxLen) (h : 134217728 < s.size) :
    Calls Try.prog 8 #[.string s, .int .i64 d, .int .i64 n, .int .u8 x, .int .i64 p] w fun e w' => Post w e w' := by
  have hm := made_no s w hs h
  have hd : (134217728 : Int) < (s.size : Int) := by omega
  unfold maxLen at hs
  go_enter Try.func8, Try.ntmps8
  go_wp2_with fail
  refine hm.mono ?_
  rintro e w' ⟨rfl, rfl⟩
  clear hm
  go_wp2_with fail
  go_ret
  exact ⟨rfl, Below.refl _ _⟩

set_option maxHeartbeats 400000 in
theorem no_neg (s : ByteArray) (d n x : Int) (p : Int) (w : World) (h : s.size ≤ 134217728) (hp : p < 0) (h1 : insideB s.size d n = false) :
    Calls Try.prog 8 #[.string s, .int .i64 d, .int .i64 n, .int .u8 x, .int .i64 p] w fun e w' => Post w e w' := by
  have hm := made_yes s w h
  have hl : s.data.toList.length = s.size := by simp
  have hin := fun W => lawin_no W s.size (by omega) d n h1
  have HO : Hid (insideB s.size d n = false) := h1
  clear h1
  go_enter Try.func8, Try.ntmps8
  go_wp2_with fail
  refine hm.mono ?_
  rintro e w1 ⟨b, g, hb, hg, rfl, m, k⟩
  clear hm
  go_wp2_with fail
  refine (fill_no _ b g _ _ m d n x (by rw [hl]; exact HO.out)).mono ?_
  rintro e w2 ⟨rfl, rfl⟩
  go_wp2_with fail
  refine (hin _).mono ?_
  rintro e w2 ⟨rfl, rfl⟩
  clear hin
  have hat := at_no _ b g _ _ m p (by omega)
  go_wp2_with fail
  refine hat.mono ?_
  rintro e w3 ⟨rfl, k3⟩
  clear hat
  go_wp2_with fail
  go_ret
  exact ⟨rfl, (k.trans k3 (fun _ _ x => x)).below (Nat.le_refl _) (fun _ _ => id)⟩

set_option maxHeartbeats 400000 in
theorem no_big (s : ByteArray) (d n x : Int) (p : Int) (w : World) (h : s.size ≤ 134217728) (hp : (s.size : Int) ≤ p) (h1 : insideB s.size d n = false) :
    Calls Try.prog 8 #[.string s, .int .i64 d, .int .i64 n, .int .u8 x, .int .i64 p] w fun e w' => Post w e w' := by
  have hm := made_yes s w h
  have hl : s.data.toList.length = s.size := by simp
  have hp0 : ¬ p < 0 := by omega
  have hin := fun W => lawin_no W s.size (by omega) d n h1
  have HO : Hid (insideB s.size d n = false) := h1
  clear h1
  go_enter Try.func8, Try.ntmps8
  go_wp2_with fail
  refine hm.mono ?_
  rintro e w1 ⟨b, g, hb, hg, rfl, m, k⟩
  clear hm
  go_wp2_with fail
  refine (fill_no _ b g _ _ m d n x (by rw [hl]; exact HO.out)).mono ?_
  rintro e w2 ⟨rfl, rfl⟩
  go_wp2_with fail
  refine (hin _).mono ?_
  rintro e w2 ⟨rfl, rfl⟩
  clear hin
  have hat := at_no _ b g _ _ m p (by rw [hl]; omega)
  go_wp2_with fail
  refine hat.mono ?_
  rintro e w3 ⟨rfl, k3⟩
  clear hat
  go_wp2_with fail
  go_ret
  exact ⟨rfl, (k.trans k3 (fun _ _ x => x)).below (Nat.le_refl _) (fun _ _ => id)⟩

set_option maxHeartbeats 400000 in
theorem no_in (s : ByteArray) (d n x : Int) (q : Nat) (w : World) (h : s.size ≤ 134217728) (hq : q < s.size) (h1 : insideB s.size d n = false) :
    Calls Try.prog 8 #[.string s, .int .i64 d, .int .i64 n, .int .u8 x, .int .i64 (q : Int)] w fun e w' => Post w e w' := by
  have hm := made_yes s w h
  have hl : s.data.toList.length = s.size := by simp
  have hp0 : ¬ (q : Int) < 0 := by omega
  have hp1 : ¬ (s.size : Int) ≤ (q : Int) := by omega
  have hw8 := wrap_byte (s[q]'hq)
  have hin := fun W => lawin_no W s.size (by omega) d n h1
  have HO : Hid (insideB s.size d n = false) := h1
  clear h1
  go_enter Try.func8, Try.ntmps8
  go_wp2_with fail
  refine hm.mono ?_
  rintro e w1 ⟨b, g, hb, hg, rfl, m, k⟩
  clear hm
  go_wp2_with fail
  refine (fill_no _ b g _ _ m d n x (by rw [hl]; exact HO.out)).mono ?_
  rintro e w2 ⟨rfl, rfl⟩
  go_wp2_with fail
  refine (hin _).mono ?_
  rintro e w2 ⟨rfl, rfl⟩
  clear hin
  have hat := fun W (mW : MemAt 47 5 W b g s.data.toList []) => at_yes W b g s.data.toList [] mW q (by rw [hl]; exact hq) (s[q]'hq) (byte_get s q hq _)
  go_wp2_with fail
  go_region_with (go_at_call 13; refine (hat _ ?_).mono ?_; exact m.drew; rintro e w3 ⟨rfl, k3⟩)
  all_goals clear hat
  all_goals go_wp2
  all_goals go_ret
  all_goals refine ⟨?_, ((k.drew).trans k3 (fun _ _ x => x)).below (Nat.le_refl _) (fun _ _ => id)⟩
  all_goals first | rfl | (simp [Act.put, hw8]; done)

set_option maxHeartbeats 400000 in
theorem yes_neg (s : ByteArray) (d n : Nat) (u : UInt8) (p : Int) (w : World) (h : s.size ≤ 134217728) (h1 : d + n ≤ s.size) (hp : p < 0) :
    Calls Try.prog 8 #[.string s, .int .i64 (d : Int), .int .i64 (n : Int), .int .u8 (u.toNat : Int), .int .i64 p] w fun e w' => Post w e w' := by
  have hm := made_yes s w h
  have hl : s.data.toList.length = s.size := by simp
  have hin := fun W => lawin_yes W s.size (by omega) d n (insideB_mk h1)
  have hcl : (same n u).length = n := same_length n u
  have hsl : (splice s.data.toList d (same n u)).length = s.size := by rw [splice_length (by rw [hcl, hl]; exact h1), hl]
  generalize hbs : splice s.data.toList d (same n u) = bs at *
  have HB : Hid (splice s.data.toList d (same n u) = bs) := hbs
  clear hbs hcl
  go_enter Try.func8, Try.ntmps8
  go_wp2_with fail
  refine hm.mono ?_
  rintro e w1 ⟨b, g, hb, hg, rfl, m, k⟩
  clear hm
  go_wp2_with fail
  have hcy := fill_yes _ b g _ _ m d n (by rw [hl]; exact h1) u
  rw [HB.out] at hcy
  refine hcy.mono ?_
  rintro e w2 ⟨rfl, m2, k2⟩
  clear hcy
  replace k := k.trans k2 (fun i hi e => by omega)
  clear m k2
  have m := m2
  clear m2
  go_wp2_with fail
  refine (hin _).mono ?_
  rintro e w2 ⟨rfl, rfl⟩
  clear hin
  have hat := at_no _ b g _ _ m p (by omega)
  go_wp2_with fail
  refine hat.mono ?_
  rintro e w3 ⟨rfl, k3⟩
  clear hat
  go_wp2_with fail
  go_ret
  exact ⟨rfl, (k.trans k3 (fun _ _ x => x)).below (Nat.le_refl _) (fun _ _ => id)⟩

set_option maxHeartbeats 400000 in
theorem yes_big (s : ByteArray) (d n : Nat) (u : UInt8) (p : Int) (w : World) (h : s.size ≤ 134217728) (h1 : d + n ≤ s.size) (hp : (s.size : Int) ≤ p) :
    Calls Try.prog 8 #[.string s, .int .i64 (d : Int), .int .i64 (n : Int), .int .u8 (u.toNat : Int), .int .i64 p] w fun e w' => Post w e w' := by
  have hm := made_yes s w h
  have hl : s.data.toList.length = s.size := by simp
  have hp0 : ¬ p < 0 := by omega
  have hin := fun W => lawin_yes W s.size (by omega) d n (insideB_mk h1)
  have hcl : (same n u).length = n := same_length n u
  have hsl : (splice s.data.toList d (same n u)).length = s.size := by rw [splice_length (by rw [hcl, hl]; exact h1), hl]
  generalize hbs : splice s.data.toList d (same n u) = bs at *
  have HB : Hid (splice s.data.toList d (same n u) = bs) := hbs
  clear hbs hcl
  go_enter Try.func8, Try.ntmps8
  go_wp2_with fail
  refine hm.mono ?_
  rintro e w1 ⟨b, g, hb, hg, rfl, m, k⟩
  clear hm
  go_wp2_with fail
  have hcy := fill_yes _ b g _ _ m d n (by rw [hl]; exact h1) u
  rw [HB.out] at hcy
  refine hcy.mono ?_
  rintro e w2 ⟨rfl, m2, k2⟩
  clear hcy
  replace k := k.trans k2 (fun i hi e => by omega)
  clear m k2
  have m := m2
  clear m2
  go_wp2_with fail
  refine (hin _).mono ?_
  rintro e w2 ⟨rfl, rfl⟩
  clear hin
  have hat := at_no _ b g _ _ m p (by rw [hsl]; omega)
  go_wp2_with fail
  refine hat.mono ?_
  rintro e w3 ⟨rfl, k3⟩
  clear hat
  go_wp2_with fail
  go_ret
  exact ⟨rfl, (k.trans k3 (fun _ _ x => x)).below (Nat.le_refl _) (fun _ _ => id)⟩

set_option maxHeartbeats 400000 in
theorem yes_lo (s : ByteArray) (d n : Nat) (u : UInt8) (q : Nat) (w : World) (h : s.size ≤ 134217728) (h1 : d + n ≤ s.size) (hq : q < s.size) (hqd : q < d) :
    Calls Try.prog 8 #[.string s, .int .i64 (d : Int), .int .i64 (n : Int), .int .u8 (u.toNat : Int), .int .i64 (q : Int)] w fun e w' => Post w e w' := by
  have hm := made_yes s w h
  have hl : s.data.toList.length = s.size := by simp
  have hp0 : ¬ (q : Int) < 0 := by omega
  have hp1 : ¬ (s.size : Int) ≤ (q : Int) := by omega
  have hp2 : ¬ (d : Int) ≤ (q : Int) := by omega
  have hw8 := wrap_byte (s[q]'hq)
  have hin := fun W => lawin_yes W s.size (by omega) d n (insideB_mk h1)
  have hcl : (same n u).length = n := same_length n u
  have hsl : (splice s.data.toList d (same n u)).length = s.size := by rw [splice_length (by rw [hcl, hl]; exact h1), hl]
  have HX : Hid ((splice s.data.toList d (same n u))[q]'(by rw [hsl]; exact hq) = s[q]'hq) := by
    apply Option.some.inj
    rw [← List.getElem?_eq_getElem, splice_get (by rw [hcl, hl]; exact h1), if_neg (by rw [hcl]; omega), List.getElem?_eq_getElem (by rw [hl]; exact hq), byte_get s q hq]
  generalize hbs : splice s.data.toList d (same n u) = bs at *
  have HB : Hid (splice s.data.toList d (same n u) = bs) := hbs
  clear hbs hcl
  go_enter Try.func8, Try.ntmps8
  go_wp2_with fail
  refine hm.mono ?_
  rintro e w1 ⟨b, g, hb, hg, rfl, m, k⟩
  clear hm
  go_wp2_with fail
  have hcy := fill_yes _ b g _ _ m d n (by rw [hl]; exact h1) u
  rw [HB.out] at hcy
  refine hcy.mono ?_
  rintro e w2 ⟨rfl, m2, k2⟩
  clear hcy
  replace k := k.trans k2 (fun i hi e => by omega)
  clear m k2
  have m := m2
  clear m2
  go_wp2_with fail
  refine (hin _).mono ?_
  rintro e w2 ⟨rfl, rfl⟩
  clear hin
  have hat := fun W (mW : MemAt 47 5 W b g bs []) => at_yes W b g bs [] mW q (by rw [hsl]; exact hq) (s[q]'hq) (HX)
  go_wp2_with fail
  go_region_with (go_at_call 13; refine (hat _ ?_).mono ?_; exact m.drew; rintro e w3 ⟨rfl, k3⟩)
  all_goals clear hat
  all_goals go_wp2
  all_goals go_ret
  all_goals refine ⟨?_, ((k.drew).trans k3 (fun _ _ x => x)).below (Nat.le_refl _) (fun _ _ => id)⟩
  all_goals first | rfl | (simp [Act.put, hw8]; done)

set_option maxHeartbeats 400000 in
theorem yes_hi (s : ByteArray) (d n : Nat) (u : UInt8) (q : Nat) (w : World) (h : s.size ≤ 134217728) (h1 : d + n ≤ s.size) (hq : q < s.size) (hqd : d + n ≤ q) :
    Calls Try.prog 8 #[.string s, .int .i64 (d : Int), .int .i64 (n : Int), .int .u8 (u.toNat : Int), .int .i64 (q : Int)] w fun e w' => Post w e w' := by
  have hm := made_yes s w h
  have hl : s.data.toList.length = s.size := by simp
  have hp0 : ¬ (q : Int) < 0 := by omega
  have hp1 : ¬ (s.size : Int) ≤ (q : Int) := by omega
  have hp2 : (d : Int) ≤ (q : Int) := by omega
  have hp3 : ¬ (q : Int) < (d : Int) + (n : Int) := by omega
  have hw8 := wrap_byte (s[q]'hq)
  have hin := fun W => lawin_yes W s.size (by omega) d n (insideB_mk h1)
  have hcl : (same n u).length = n := same_length n u
  have hsl : (splice s.data.toList d (same n u)).length = s.size := by rw [splice_length (by rw [hcl, hl]; exact h1), hl]
  have HX : Hid ((splice s.data.toList d (same n u))[q]'(by rw [hsl]; exact hq) = s[q]'hq) := by
    apply Option.some.inj
    rw [← List.getElem?_eq_getElem, splice_get (by rw [hcl, hl]; exact h1), if_neg (by rw [hcl]; omega), List.getElem?_eq_getElem (by rw [hl]; exact hq), byte_get s q hq]
  generalize hbs : splice s.data.toList d (same n u) = bs at *
  have HB : Hid (splice s.data.toList d (same n u) = bs) := hbs
  clear hbs hcl
  go_enter Try.func8, Try.ntmps8
  go_wp2_with fail
  refine hm.mono ?_
  rintro e w1 ⟨b, g, hb, hg, rfl, m, k⟩
  clear hm
  go_wp2_with fail
  have hcy := fill_yes _ b g _ _ m d n (by rw [hl]; exact h1) u
  rw [HB.out] at hcy
  refine hcy.mono ?_
  rintro e w2 ⟨rfl, m2, k2⟩
  clear hcy
  replace k := k.trans k2 (fun i hi e => by omega)
  clear m k2
  have m := m2
  clear m2
  go_wp2_with fail
  refine (hin _).mono ?_
  rintro e w2 ⟨rfl, rfl⟩
  clear hin
  have hat := fun W (mW : MemAt 47 5 W b g bs []) => at_yes W b g bs [] mW q (by rw [hsl]; exact hq) (s[q]'hq) (HX)
  go_wp2_with fail
  go_region_with (go_at_call 13; refine (hat _ ?_).mono ?_; exact m.drew; rintro e w3 ⟨rfl, k3⟩)
  all_goals clear hat
  all_goals go_wp2
  all_goals go_ret
  all_goals refine ⟨?_, ((k.drew).trans k3 (fun _ _ x => x)).below (Nat.le_refl _) (fun _ _ => id)⟩
  all_goals first | rfl | (simp [Act.put, hw8]; done)

set_option maxHeartbeats 400000 in
theorem yes_span (s : ByteArray) (d n : Nat) (u : UInt8) (q : Nat) (w : World) (h : s.size ≤ 134217728) (h1 : d + n ≤ s.size) (hq : q < s.size) (hqd : d ≤ q) (hi : q < d + n) :
    Calls Try.prog 8 #[.string s, .int .i64 (d : Int), .int .i64 (n : Int), .int .u8 (u.toNat : Int), .int .i64 (q : Int)] w fun e w' => Post w e w' := by
  have hm := made_yes s w h
  have hl : s.data.toList.length = s.size := by simp
  have hp0 : ¬ (q : Int) < 0 := by omega
  have hp1 : ¬ (s.size : Int) ≤ (q : Int) := by omega
  have hp2 : (d : Int) ≤ (q : Int) := by omega
  have hp3 : (q : Int) < (d : Int) + (n : Int) := by omega
  have hw8 := wrap_byte u
  have hin := fun W => lawin_yes W s.size (by omega) d n (insideB_mk h1)
  have hcl : (same n u).length = n := same_length n u
  have hsl : (splice s.data.toList d (same n u)).length = s.size := by rw [splice_length (by rw [hcl, hl]; exact h1), hl]
  have HX : Hid ((splice s.data.toList d (same n u))[q]'(by rw [hsl]; exact hq) = u) := by
    apply Option.some.inj
    rw [← List.getElem?_eq_getElem, splice_get (by rw [hcl, hl]; exact h1), if_pos (by rw [hcl]; omega), same, List.getElem?_replicate, if_pos (by omega)]
  generalize hbs : splice s.data.toList d (same n u) = bs at *
  have HB : Hid (splice s.data.toList d (same n u) = bs) := hbs
  clear hbs hcl
  go_enter Try.func8, Try.ntmps8
  go_wp2_with fail
  refine hm.mono ?_
  rintro e w1 ⟨b, g, hb, hg, rfl, m, k⟩
  clear hm
  go_wp2_with fail
  have hcy := fill_yes _ b g _ _ m d n (by rw [hl]; exact h1) u
  rw [HB.out] at hcy
  refine hcy.mono ?_
  rintro e w2 ⟨rfl, m2, k2⟩
  clear hcy
  replace k := k.trans k2 (fun i hi e => by omega)
  clear m k2
  have m := m2
  clear m2
  go_wp2_with fail
  refine (hin _).mono ?_
  rintro e w2 ⟨rfl, rfl⟩
  clear hin
  have hat := at_yes _ b g _ _ m q (by rw [hsl]; exact hq) u HX
  have hx256 : u.toNat < 256 := u.toNat_lt
  go_wp2_with fail
  refine hat.mono ?_
  rintro e w3 ⟨rfl, k3⟩
  clear hat
  go_wp2_with fail
  go_ret
  exact ⟨rfl, (k.trans k3 (fun _ _ x => x)).below (Nat.le_refl _) (fun _ _ => id)⟩

theorem walk (a0 : ByteArray) (a1 : Int) (a2 : Int) (a3 : Int) (a4 : Int) (w0 : a0.size ≤ maxLen) (_ : (Lit.int .i64 a1).wf = true) (_ : (Lit.int .i64 a2).wf = true) (w3 : (Lit.int .u8 a3).wf = true) (_ : (Lit.int .i64 a4).wf = true) (w : World) :
    Calls Try.prog 8 #[.string a0, .int .i64 a1, .int .i64 a2, .int .u8 a3, .int .i64 a4] w fun e w' => e = .returned (.bool true) ∧ Below w.heap.size w w' := by
  by_cases h : 134217728 < a0.size
  · exact walk_big a0 a1 a2 a3 a4 w w0 h
  replace h : a0.size ≤ 134217728 := by omega
  have hp : a4 < 0 ∨ (a0.size : Int) ≤ a4 ∨ ∃ q : Nat, a4 = q ∧ q < a0.size := by
    by_cases h0 : a4 < 0
    · exact Or.inl h0
    · by_cases h1 : (a0.size : Int) ≤ a4
      · exact Or.inr (Or.inl h1)
      · exact Or.inr (Or.inr ⟨a4.toNat, by omega, by omega⟩)
  obtain ⟨u, hu⟩ : ∃ u : UInt8, a3 = (u.toNat : Int) := by
    have hx : 0 ≤ a3 ∧ a3 ≤ 255 := by simpa [Lit.wf, IntKind.min, IntKind.max, IntKind.signed, IntKind.bits] using w3
    refine ⟨UInt8.ofNat a3.toNat, ?_⟩
    rw [UInt8.toNat_ofNat_of_lt' (show a3.toNat < 256 by omega)]
    omega
  subst hu
  cases h1 : insideB a0.size a1 a2
  · rcases hp with hp | hp | ⟨q, rfl, hq⟩
    · exact no_neg a0 a1 a2 _ a4 w h hp h1
    · exact no_big a0 a1 a2 _ a4 w h hp h1
    · exact no_in a0 a1 a2 _ q w h hq h1
  obtain ⟨d, n, rfl, rfl, hd⟩ := insideB_nat h1
  rcases hp with hp | hp | ⟨q, rfl, hq⟩
  · exact yes_neg a0 d n u a4 w h hd hp
  · exact yes_big a0 d n u a4 w h hd hp
  · by_cases h3 : q < d
    · exact yes_lo a0 d n u q w h hd hq h3
    · by_cases h4 : d + n ≤ q
      · exact yes_hi a0 d n u q w h hd hq h4
      · exact yes_span a0 d n u q w h hd hq (by omega) (by omega)
end memFills
end Go.Proofs.Ytlgmpnaalifegaa
