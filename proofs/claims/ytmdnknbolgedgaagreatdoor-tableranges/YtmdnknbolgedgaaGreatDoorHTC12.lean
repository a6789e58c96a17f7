/-
  TB12 beside the pointer's box. (made by gentc.py)
-/
import Derived.Test.YtmdnknbolgedgaaGreatDoorHTC11
namespace Go.Proofs.YtmdnknbolgedgaaGreatDoor
open Go.RowKit Go.Shelf Ly Ct
set_option linter.unusedVariables false
set_option linter.unusedSectionVars false
namespace Bx
variable [BoxNo]
section
variable {w wr : World} {b p : Nat} {l : Lay} {G j g o nh hc : Nat} {hv : Nat → Nat} {fs ts lv : Value} {L : List LifeD} {ad : Nat} {d : AD} {f : Nat → Int} {c : Nat → GC}
set_option maxRecDepth 100000 in
set_option maxHeartbeats 4000000 in
theorem turn_any (h : BM w wr b p l G fs ts (.slice (some ⟨g, o, none⟩) nh hc) lv L ad d f c) (P : PlanAt w l G j g o nh hv) (tie : LTie c G f (hsT hv nh) L ad) (had : ad ≤ 9000000000000000000) (kd n E : Int) (hn : fitsI n) (hE : fitsI E) :
    Calls Tryz.prog 27 #[.pointer (some ⟨b, 0, none⟩), .agg #[.int .i64 kd, .int .i64 n, .int .i64 E]] wr fun e w' => TurnPost w b p l G fs ts (.slice (some ⟨g, o, none⟩) nh hc) hv nh ad f L e w' := by
  have hPu : Hid (∀ W, Keeps wr W (fun _ => False) → _) := fun W q => puts_any (h.stay q) P tie had kd n E hn hE
  have hDe : Hid (∀ W, Keeps wr W (fun _ => False) → _) := fun W q => deletes_any (h.stay q) P tie kd n E hn
  have hAs : Hid (∀ W, Keeps wr W (fun _ => False) → _) := fun W q => asks_any (h.stay q) P tie n hn
  have hS : Hid (∀ W, Keeps wr W (fun _ => False) → TurnPost w b p l G fs ts (.slice (some ⟨g, o, none⟩) nh hc) hv nh ad f L (.returned (.bool true)) W) := fun W q => ⟨rfl, lv, L, ad, d, f, c, h.stay q, tie, by omega, fun _ _ _ => rfl, id⟩
  clear h P tie had hn hE
  by_cases h1 : kd = 1
  · subst h1
    go_enter Tryz.func27, Tryz.ntmps27
    go_wp2_with fail
    refine alloc1 (P := fun W => Calls _ _ _ W _) fun W0 hb hz k0 => ?_
    (with_reducible refine (hPu.out _ k0).mono ?_)
    rintro e w' ⟨rfl, hx⟩
    have hfin : Hid (TurnPost w b p l G fs ts (.slice (some ⟨g, o, none⟩) nh hc) hv nh ad f L (.returned (.bool true)) w') := ⟨rfl, hx⟩
    clear hx
    go_wp2_with fail
    go_ret
    exact hfin.out
  · by_cases h2 : kd = 2
    · subst h2
      clear h1
      go_enter Tryz.func27, Tryz.ntmps27
      go_wp2_with fail
      refine alloc1 (P := fun W => Calls _ _ _ W _) fun W0 hb hz k0 => ?_
      (with_reducible refine (hDe.out _ k0).mono ?_)
      rintro e w' ⟨rfl, hx⟩
      have hfin : Hid (TurnPost w b p l G fs ts (.slice (some ⟨g, o, none⟩) nh hc) hv nh ad f L (.returned (.bool true)) w') := ⟨rfl, hx⟩
      clear hx
      go_wp2_with fail
      go_ret
      exact hfin.out
    · by_cases h3 : kd = 3
      · subst h3
        clear h1 h2
        go_enter Tryz.func27, Tryz.ntmps27
        go_wp2_with fail
        refine alloc1 (P := fun W => Calls _ _ _ W _) fun W0 hb hz k0 => ?_
        (with_reducible refine (hAs.out _ k0).mono ?_)
        rintro e w' ⟨rfl, k⟩
        go_wp2_with fail
        go_ret
        exact hS.out _ (k0.trans k (fun _ _ e => e))
      · have e1 : (kd == 1) = false := by simp [h1]
        have e2 : (kd == 2) = false := by simp [h2]
        have e3 : (kd == 3) = false := by simp [h3]
        go_enter Tryz.func27, Tryz.ntmps27
        go_wp2_with fail
        go_ret
        exact hS.out _ ((Keeps.refl _ _).alloc _)
end
end Bx
end Go.Proofs.YtmdnknbolgedgaaGreatDoor
