/-
  TB10 beside the pointer's box. (made by gentc.py)
-/
import Derived.Test.YtmdnknbolgedgaaGreatDoorHTC9
namespace Go.Proofs.YtmdnknbolgedgaaGreatDoor
open Go.RowKit Go.Shelf Ly Ct
set_option linter.unusedVariables false
set_option linter.unusedSectionVars false
namespace Bx
variable [BoxNo]
def TurnPost (w : World) (b p : Nat) (l : Lay) (G : Nat) (fs ts hs : Value) (hv : Nat → Nat) (nh ad0 : Nat) (f0 : Nat → Int) (L0 : List LifeD) (e : Ending) (w' : World) : Prop :=
  e = .returned (.bool true) ∧ ∃ lv L ad d f c, BM w w' b p l G fs ts hs lv L ad d f c ∧ LTie c G f (hsT hv nh) L ad ∧ ad ≤ ad0 + 1 ∧ (∀ q, q ≠ 3 → q ≠ 5 → f q = f0 q) ∧ (Keyed l L0 → Keyed l L)
section
variable {w wr : World} {b p : Nat} {l : Lay} {G j g o nh hc : Nat} {hv : Nat → Nat} {fs ts lv : Value} {L : List LifeD} {ad : Nat} {d : AD} {f : Nat → Int} {c : Nat → GC}
set_option maxRecDepth 100000 in
set_option maxHeartbeats 4000000 in
theorem deletes_no (h : BM w wr b p l G fs ts (.slice (some ⟨g, o, none⟩) nh hc) lv L ad d f c) (P : PlanAt w l G j g o nh hv) (tie : LTie c G f (hsT hv nh) L ad) (kd n E : Int) (hn : fitsI n) (hno : ∀ x, x ∈ L → x.key ≠ keyT l n) :
    Calls Tryz.prog 55 #[.pointer (some ⟨b, 0, none⟩), .agg #[.int .i64 kd, .int .i64 n, .int .i64 E]] wr fun e w' => TurnPost w b p l G fs ts (.slice (some ⟨g, o, none⟩) nh hc) hv nh ad f L e w' := by
  have hG8 := P.le
  have hfew := tie.few
  have hK := keyT_size h.tab.valid n
  have hKey : Hid (∀ W, Keeps wr W (fun _ => False) → _) := fun W q => bm_key (h.stay q) P n hn
  have hDel : Hid (∀ W, Keeps wr W (fun _ => False) → _) := fun W q => bm_delete_no (h.stay q) P tie hK hno
  have hPl : Hid (∀ W, Keeps wr W (fun _ => False) → _) := fun W q => bm_place (h.stay q) (by omega) (keyT l n)
  have ep : placeL (keyT l n) L 0 = -1 := by
    rcases placeL_spec (keyT l n) L 0 with q | ⟨i, hi, q1, q2⟩
    · exact q.1
    · exact absurd q2 (hno _ (List.getElem_mem hi))
  rw [ep] at hPl
  have hB : Hid (∀ W, Keeps wr W (fun _ => False) → W.heap[b]? = some (.cells (benC p l 16 fs ((8 * G : Nat) : Int) (.slice (some ⟨g, o, none⟩) nh hc) ts lv (ad : Int)) 57)) := fun W q => q.blk h.blk
  have hfin : Hid (∀ W, Keeps wr W (fun _ => False) → TurnPost w b p l G fs ts (.slice (some ⟨g, o, none⟩) nh hc) hv nh ad f L (.returned (.bool true)) W) := fun W q => ⟨rfl, lv, L, ad, d, f, c, h.stay q, tie, by omega, fun _ _ _ => rfl, id⟩
  have hNum := fun x W => num8_any x W
  clear ep hK h tie hno hn P hG8 hfew
  generalize hsT hv nh (keyT l n) = H at *
  generalize keyT l n = K at *
  go_enter Tryz.func55, Tryz.ntmps55
  go_wp2_with fail
  refine alloc1 (P := fun W => Calls _ _ _ W _) fun W0 hb hz k0 => ?_
  (with_reducible refine (hKey.out _ k0).mono ?_)
  rintro r w1 ⟨rfl, k1'⟩
  have k1 := k0.trans k1' (fun _ _ e => e)
  obtain ⟨t0, t1, t2, t3, t4, t5, t6, t7, t8, t9, t10⟩ := ben_T (hB.out _ k1)
  clear hKey k1' k0 hb hz
  go_wp2_with fail
  (with_reducible refine (hDel.out _ k1).mono ?_)
  rintro r w2 ⟨rfl, k2'⟩
  have k2 := k1.trans k2' (fun _ _ e => e)
  clear t0 t1 t2 t3 t4 t5 t6 t7 t8 t9 t10 k2' k1 hDel hB
  go_wp2_with fail
  (with_reducible refine (hPl.out _ k2).mono ?_)
  rintro r w3 ⟨rfl, k3'⟩
  have k3 := k2.trans k3' (fun _ _ e => e)
  clear k3' k2 hPl
  go_wp2_with fail
  refine (hNum _ _).mono ?_
  rintro r w6 ⟨rfl, hw⟩
  subst hw
  go_wp2_with fail
  go_ret
  exact hfin.out _ k3
set_option maxRecDepth 100000 in
set_option maxHeartbeats 4000000 in
theorem deletes_yes (h : BM w wr b p l G fs ts (.slice (some ⟨g, o, none⟩) nh hc) lv L ad d f c) (P : PlanAt w l G j g o nh hv) (tie : LTie c G f (hsT hv nh) L ad) (kd n E : Int) (hn : fitsI n) {i : Nat} (hi : i < L.length) (hk : L[i].key = keyT l n) (hp : placeL (keyT l n) L 0 = (i : Int)) :
    Calls Tryz.prog 55 #[.pointer (some ⟨b, 0, none⟩), .agg #[.int .i64 kd, .int .i64 n, .int .i64 E]] wr fun e w' => TurnPost w b p l G fs ts (.slice (some ⟨g, o, none⟩) nh hc) hv nh ad f L e w' := by
  have hG8 := P.le
  have hfew := tie.few
  have hK := keyT_size h.tab.valid n
  have hKey : Hid (∀ W, Keeps wr W (fun _ => False) → _) := fun W q => bm_key (h.stay q) P n hn
  have hDel : Hid (∀ W, Keeps wr W (fun _ => False) → _) := fun W q => bm_delete_yes (h.stay q) P tie hK hi hk
  have hB : Hid (∀ W, Keeps wr W (fun _ => False) → W.heap[b]? = some (.cells (benC p l 16 fs ((8 * G : Nat) : Int) (.slice (some ⟨g, o, none⟩) nh hc) ts lv (ad : Int)) 57)) := fun W q => q.blk h.blk
  have hNum := fun x W => num8_any x W
  obtain ⟨a, cap, hlv, hL, hcap⟩ := h.lives
  have hlt' : (i : Int) < (L.length : Int) := by omega
  have hi0 : ¬ (i : Int) < 0 := by omega
  have hi1 : (0 : Int) ≤ (i : Int) := by omega
  have HL : Hid (L.length ≤ 1024) := by show L.length ≤ 1024; omega
  clear hK h tie hn P hG8 hfew hL hk
  subst hlv
  have hPl : Hid (∀ {W d f c}, BM w W b p l G fs ts (.slice (some ⟨g, o, none⟩) nh hc) (.slice a L.length cap) L ad d f c → Calls Tryz.prog 50 #[.pointer (some ⟨b, 0, none⟩), .string (keyT l n)] W fun e w' => e = .returned (.int .i64 (i : Int)) ∧ Keeps W w' (fun _ => False)) := fun {W d f c} hh => by
    have := bm_place hh (by have := HL.out; omega) (keyT l n)
    rw [hp] at this
    exact this
  clear hp
  generalize hsT hv nh (keyT l n) = H at *
  generalize keyT l n = K at *
  go_enter Tryz.func55, Tryz.ntmps55
  go_wp2_with fail
  refine alloc1 (P := fun W => Calls _ _ _ W _) fun W0 hb hz k0 => ?_
  (with_reducible refine (hKey.out _ k0).mono ?_)
  rintro r w1 ⟨rfl, k1'⟩
  have k1 := k0.trans k1' (fun _ _ e => e)
  obtain ⟨t0, t1, t2, t3, t4, t5, t6, t7, t8, t9, t10⟩ := ben_T (hB.out _ k1)
  clear hKey k1' k0 hb hz
  go_wp2_with fail
  (with_reducible refine (hDel.out _ k1).mono ?_)
  rintro r w2 ⟨rfl, d', f', c', hB2, hT2, hf2⟩
  clear t0 t1 t2 t3 t4 t5 t6 t7 t8 t9 t10 k1 hDel hB
  replace hf2 := hide hf2
  go_wp2_with fail
  (with_reducible refine (hPl.out hB2).mono ?_)
  rintro r w3 ⟨rfl, k3⟩
  have hB3 := hB2.stay k3
  obtain ⟨gl, v1, w4, hge, hr1, k4, v2, w5, hr2, k5, hB5⟩ := hB3.without rfl hi (by have := HL.out; omega) cap (cap - (i + 1))
  subst hge
  obtain ⟨a2, cap2, hv2, -⟩ := hB5.lives
  subst hv2
  obtain ⟨z25, -⟩ := ben_25 hB3.blk
  obtain ⟨y25, -⟩ := ben_25 (k4.blk hB3.blk)
  obtain ⟨x25, x25f⟩ := ben_25 (k5.blk hB3.blk)
  have hfin : Hid (TurnPost w b p l G fs ts (.slice (some ⟨g, o, none⟩) nh hc) hv nh ad f L (.returned (.bool true)) (w5.setCell ⟨b, 25, none⟩ (.slice a2 (L.take i ++ L.drop (i + 1)).length cap2))) := ⟨rfl, _, _, ad, d', f', c', hB5, hT2, by omega, hf2.out, keyed_gone⟩
  have hic : i ≤ cap := by omega
  have hic1 : i + 1 ≤ cap := by omega
  have hil : i + 1 ≤ L.length := by omega
  have hii : i ≤ L.length := by omega
  have hLL : L.length ≤ 1024 := HL.out
  have hwi : wrap64 ((i : Int) + 1) = (i : Int) + 1 ∧ IntKind.i64.wrap ((i : Int) + 1) = (i : Int) + 1 := wrm (by omega) (by omega)
  obtain ⟨hwi1, hwi2⟩ := hwi
  clear hB3 hB2 hT2 hf2 k3 k4 k5 hB5 hPl
  generalize (L.take i ++ L.drop (i + 1)).length = n2 at *
  go_wp2_with (first | (at_builtin; first | (have _t := hr1; refine app_run8 _ rfl (.tmp 33) (.tmp 39) 55 rfl rfl rfl hr1 ?_; clear hr1) | (have _t := hr2; refine app_run8 _ rfl (.tmp 41) (.tmp 48) 55 rfl rfl rfl hr2 ?_; clear hr2)))
  all_goals
    refine (hNum _ _).mono ?_
    rintro r w6 ⟨rfl, hw⟩
    subst hw
    go_wp2_with fail
    go_ret
    exact hfin.out
theorem deletes_any (h : BM w wr b p l G fs ts (.slice (some ⟨g, o, none⟩) nh hc) lv L ad d f c) (P : PlanAt w l G j g o nh hv) (tie : LTie c G f (hsT hv nh) L ad) (kd n E : Int) (hn : fitsI n) :
    Calls Tryz.prog 55 #[.pointer (some ⟨b, 0, none⟩), .agg #[.int .i64 kd, .int .i64 n, .int .i64 E]] wr fun e w' => TurnPost w b p l G fs ts (.slice (some ⟨g, o, none⟩) nh hc) hv nh ad f L e w' := by
  rcases placeL_spec (keyT l n) L 0 with ⟨-, q⟩ | ⟨i, hi, q1, q2⟩
  · exact deletes_no h P tie kd n E hn q
  · exact deletes_yes h P tie kd n E hn hi q2 (by rw [q1]; simp)
end
end Bx
end Go.Proofs.YtmdnknbolgedgaaGreatDoor
