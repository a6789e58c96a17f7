/-
  script: the reference's row.
-/
import Derived.Test.YtfpiibccggjjpaaDoorHSV8
import Derived.Test.YtfpiibccggjjpaaDoorUn13
namespace Go.Proofs.YtfpiibccggjjpaaDoor
open Go.RowKit
set_option linter.unusedVariables false
/-- The forms of the reference's rows. -/
def rfL : List ByteArray := [⟨#[110]⟩, ⟨#[98, 119]⟩, ⟨#[119, 110]⟩, ⟨#[110, 98]⟩, ⟨#[110, 98, 98]⟩, ⟨#[110, 98]⟩, ⟨#[110]⟩, ⟨#[110, 119]⟩, ⟨#[110]⟩, ⟨#[110, 119, 119]⟩, ⟨#[110]⟩, ⟨#[]⟩, ⟨#[]⟩, ⟨#[110, 98]⟩, ⟨#[110]⟩, ⟨#[]⟩]
def rfN (i : Nat) : ByteArray := rfL.getD i ⟨#[]⟩
set_option maxRecDepth 100000 in
set_option maxHeartbeats 2000000 in
theorem rrowsX_all (w : World) : Calls Tryd.prog 54 #[] w fun e w' => ∃ cs : Array Value, e = .returned (.slice (some ⟨w.heap.size, 0, none⟩) 16 16) ∧ w' = w.alloc (.cells cs 81) ∧ ∀ i, i < 16 → cs[i * 4]? = some (.string (nmN i)) ∧ cs[i * 4 + 1]? = some (.int .i64 (oN i)) ∧ cs[i * 4 + 2]? = some (.string (rfN i)) ∧ cs[i * 4 + 3]? = some (.bool (many i)) := by
  go_enter Tryd.func54, Tryd.ntmps54
  go_wp2_with fail
  go_ret
  refine ⟨_, rfl, rfl, ?_⟩
  intro i hi
  iterate 16 (rcases i with _ | i; exact ⟨rfl, rfl, rfl, rfl⟩)
  omega
theorem set_cell9 {w : World} {q : Nat} {cs : Array Value} {t : TypeId} (h : w.heap[q]? = some (.cells cs t)) (i : Nat) (v : Value) : (w.setCell ⟨q, i, none⟩ v).heap[q]? = some (.cells (cs.setIfInBounds i v) t) := by
  have hlt := (Array.getElem?_eq_some_iff.1 h).1
  have hv := (Array.getElem?_eq_some_iff.1 h).2
  simp only [World.setCell, Array.getElem?_modify]
  simp [hlt, hv]
theorem fourX_open {wr : World} {q : Nat} {v0 v1 v2 v3 : Value} {t : TypeId} (h : wr.heap[q]? = some (.cells #[v0, v1, v2, v3] t)) :
    (wr.cell? ⟨q, 0, none⟩ = some v0 ∧ wr.cell? ⟨q, 1, none⟩ = some v1 ∧ wr.cell? ⟨q, 2, none⟩ = some v2 ∧ wr.cell? ⟨q, 3, none⟩ = some v3) ∧ wr.frozen? ⟨q, 0, none⟩ = false ∧ wr.frozen? ⟨q, 1, none⟩ = false ∧ wr.frozen? ⟨q, 2, none⟩ = false ∧ wr.frozen? ⟨q, 3, none⟩ = false := by
  simp [World.cell?, World.frozen?, h]
/-- Four cells are put into a block that is new since w. -/
theorem fourX_set {w0 w : World} {b : Nat} {u0 u1 u2 u3 : Value} {t : TypeId} (h : w.heap[b]? = some (.cells #[u0, u1, u2, u3] t)) (k : Keeps w0 w (fun _ => False)) (hb : w0.heap.size ≤ b)
    {v0 v1 v2 v3 : Value} {P : World → Prop} (hP : ∀ w9, w9.heap[b]? = some (.cells #[v0, v1, v2, v3] t) → Keeps w0 w9 (fun _ => False) → P w9) :
    P ((((w.setCell ⟨b, 0, none⟩ v0).setCell ⟨b, 1, none⟩ v1).setCell ⟨b, 2, none⟩ v2).setCell ⟨b, 3, none⟩ v3) := by
  have hn : ∀ i : Nat, (⟨b, i, none⟩ : Addr).block < w0.heap.size → False := fun i e => by simp at e; omega
  refine hP _ ?_ ?_
  · have := set_cell9 (set_cell9 (set_cell9 (set_cell9 h 0 v0) 1 v1) 2 v2) 3 v3
    simpa using this
  · exact (((k.setCell _ (hn 0) _).setCell _ (hn 1) _).setCell _ (hn 2) _).setCell _ (hn 3) _
set_option maxRecDepth 100000 in
set_option maxHeartbeats 2000000 in
theorem rrowX_any (name : ByteArray) (w : World) : Calls Tryd.prog 40 #[.string name] w fun e w' => ((∃ i, i < 16 ∧ nmN i = name ∧ e = .returned (.tuple #[.agg #[.string name, .int .i64 (oN i), .string (rfN i), .bool (many i)], .bool true])) ∨ ((∀ i, i < 16 → nmN i ≠ name) ∧ e = .returned (.tuple #[.agg #[.string ⟨#[]⟩, .int .i64 0, .string ⟨#[]⟩, .bool false], .bool false]))) ∧ Keeps w w' (fun _ => False) := by
  have hRR := fun W => rrowsX_all W
  go_enter Tryd.func40, Tryd.ntmps40
  go_wp2_with fail
  refine alloc1 (P := fun W => Calls _ _ _ W _) fun W0 hb0 hz0 k0 => ?_
  (with_reducible refine (hRR _).mono ?_)
  rintro e w1 ⟨cs, rfl, rfl, hcs⟩
  have hb := heap_alloc_new W0 (.cells cs 81)
  have Hcs := hide hcs
  have kA : Keeps W0 (W0.alloc (.cells cs 81)) (fun _ => False) := (Keeps.refl _ _).alloc _
  have K1 := hide (k0.trans kA (fun _ _ e => e))
  have hb1 := kA.blk hb0
  rw [hz0] at hb
  generalize W0.alloc (.cells cs 81) = w1 at *
  have HB1 := hide hb1
  clear hRR hcs kA hb0 k0 hb1
  go_wp2_with fail
  go_loopw [5] (fun v5 wr => ∃ i : Nat, v5 = .int .i64 (i : Int) ∧ i ≤ 16 ∧ Hid (∀ j, j < i → nmN j ≠ name) ∧ wr = w1) (fun v5 _ => 16 - (intOf v5).toNat)
  case atStart => exact ⟨0, rfl, Nat.zero_le _, fun j hj => by omega, rfl⟩
  case round =>
    obtain ⟨i, rfl, hi, hno, rfl⟩ := hrel
    obtain ⟨⟨r0, r1, r2, r3⟩, q0, q1, q2, q3⟩ := fourX_open HB1.out
    by_cases hlt : i < 16
    · have hlt' : (i : Int) < 16 := by omega
      obtain ⟨c1, c2, c3, c4⟩ := Hcs.out i hlt
      obtain ⟨f, hf⟩ : ∃ f, rfN i = f := ⟨_, rfl⟩
      obtain ⟨m, hm⟩ : ∃ m, many i = m := ⟨_, rfl⟩
      rw [hf] at c3
      rw [hm] at c4
      have d1 : wr.cell? ⟨w.heap.size + 1, i * 4, none⟩ = some (.string (nmN i)) := by simp [World.cell?, hb, c1]
      have d2 : wr.cell? ⟨w.heap.size + 1, i * 4 + 1, none⟩ = some (.int .i64 (oN i)) := by simp [World.cell?, hb, c2]
      have d3 : wr.cell? ⟨w.heap.size + 1, i * 4 + 2, none⟩ = some (.string f) := by simp [World.cell?, hb, c3]
      have d4 : wr.cell? ⟨w.heap.size + 1, i * 4 + 3, none⟩ = some (.bool m) := by simp [World.cell?, hb, c4]
      have hi5 : i ≤ 1099511627776 := by omega
      have Hms : Hid (15 - i < 16 - i) := by show 15 - i < 16 - i; omega
      obtain ⟨a6, a7⟩ := wr64s hi5
      clear c1 c2 c3 c4 hi5 hb
      by_cases h1 : nmN i = name
      · have e1 := str_yes h1
        rw [h1] at d1 e1
        have HF : Hid (∃ j, j < 16 ∧ nmN j = name ∧ (Ending.returned (.tuple #[.agg #[.string name, .int .i64 (oN i), .string f, .bool m], .bool true])) = .returned (.tuple #[.agg #[.string name, .int .i64 (oN j), .string (rfN j), .bool (many j)], .bool true])) := ⟨i, hlt, h1, by rw [hf, hm]⟩
        clear hno h1 hf hm
        generalize oN i = oo at *
        go_wp2_with fail
        refine fourX_set (P := bodyPost Tryd.prog _ _ Exit.ret _) HB1.out K1.out (Nat.le_refl _) (fun w9 hb9 k9 => ?_)
        obtain ⟨⟨t0, t1, t2, t3⟩, -⟩ := fourX_open hb9
        refine bodyPost_ret (v := .tuple #[.agg #[.string name, .int .i64 oo, .string f, .bool m], .bool true]) (by simp [results, Tryd.results40, go_sem, t0, t1, t2, t3]) rfl ?_
        exact ⟨Or.inl HF.out, k9⟩
      · have e1 := str_no h1
        have HX : Hid (∀ j, j < i + 1 → nmN j ≠ name) := fun j hj => by
          by_cases e : j = i
          · rw [e]; exact h1
          · exact hno.out j (by omega)
        clear hno h1 hf hm d2 d3 d4 r0 r1 r2 r3 q0 q1 q2 q3
        generalize nmN i = nn at *
        go_wp2_with fail
        go_roundw
        case rel => exact ⟨i + 1, by go_num, hlt, HX, by first | rfl | trivial⟩
        case measure => simp [intOf]; exact Hms.out
    · obtain rfl : i = 16 := by omega
      go_wp2_with fail
      refine fourX_set (P := bodyPost Tryd.prog _ _ Exit.ret _) HB1.out K1.out (Nat.le_refl _) (fun w9 hb9 k9 => ?_)
      obtain ⟨⟨t0, t1, t2, t3⟩, -⟩ := fourX_open hb9
      refine bodyPost_ret (v := .tuple #[.agg #[.string ⟨#[]⟩, .int .i64 0, .string ⟨#[]⟩, .bool false], .bool false]) (by simp [results, Tryd.results40, go_sem, t0, t1, t2, t3]) rfl ?_
      exact ⟨Or.inr ⟨hno.out, rfl⟩, k9⟩
end Go.Proofs.YtfpiibccggjjpaaDoor
