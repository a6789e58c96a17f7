/-
  code: instOf.
-/
import Derived.Test.YtnicbillhlhmmaaDoorCW7
import Derived.RegionTactic
import Derived.ChangeAlike
namespace Go.Proofs.YtnicbillhlhmmaaDoor
namespace Cw
open Go.RowKit
set_option linter.unusedVariables false
theorem opF_le : ∀ (f i : Nat) (s : Bs), opF f i s ≤ i + f
  | 0, i, s => Nat.zero_le _
  | f + 1, i, s => by
    unfold opF
    split
    · omega
    · have := opF_le f (i + 1) s
      omega
theorem opF_le2 : ∀ (f i : Nat) (s : Bs), opF f i s = 0 ∨ opF f i s < i + f
  | 0, i, s => Or.inl rfl
  | f + 1, i, s => by
    unfold opF
    split
    · exact Or.inr (by omega)
    · rcases opF_le2 f (i + 1) s with h | h
      · exact Or.inl h
      · exact Or.inr (by omega)
theorem opD_lt (s : Bs) : opD s < 30 := by
  rcases opF_le2 29 1 s with h | h
  · show opF 29 1 s < 30
    omega
  · exact h
def InstP (o : Option In) (e : Ending) : Prop :=
  match o with
  | some x => e = .returned (.tuple #[inV x, .bool true])
  | none => ∃ y, e = .returned (.tuple #[inV y, .bool false])
theorem i64_cells {W : World} {v : Value} {ns : List Int} (h : I64V W v ns) (hne : ns ≠ []) : ∃ g o c, v = .slice (some ⟨g, o, none⟩) ns.length c ∧ ∀ j (hj : j < ns.length), W.cell? ⟨g, o + j, none⟩ = some (.int .i64 ns[j]) := by
  obtain ⟨p, c, e, f⟩ := h
  obtain ⟨g, o, -, -, e1, -, -⟩ := f 0 (List.length_pos_iff.2 hne)
  refine ⟨g, o, c, by rw [e, e1], fun j hj => ?_⟩
  obtain ⟨g', o', cur, fz, q1, q2, q3⟩ := f j hj
  rw [e1] at q1
  injection q1 with q1
  injection q1 with q4 q5 q6
  subst q4
  subst q5
  simp [World.cell?, q2, q3]
set_option maxRecDepth 100000 in
set_option maxHeartbeats 2000000 in
theorem instOf_inst (v : Value) (ns : List Int) (w : World) (hv : I64V w v ns) :
    Calls Tryd.prog 41 #[.string (sB instB), v] w fun e w' => InstP (instD instB ns) e ∧ Keeps w w' (fun _ => False) := by
  obtain ⟨p, c, hve, -⟩ := id hv
  subst hve
  have hv' := hv
  clear hv
  have hz : Keeps w (w.alloc (.cells #[.int .i64 0, .int .i64 0, .int .i64 0] 36)) (fun _ => False) := (Keeps.refl _ _).alloc _
  by_cases hl : ns.length = 3
  · obtain ⟨x, y, z, rfl⟩ : ∃ x y z, ns = [x, y, z] := by
      rcases ns with _ | ⟨x, _ | ⟨y, _ | ⟨z, _ | ⟨u, r⟩⟩⟩⟩
      · cases hl
      · cases hl
      · cases hl
      · exact ⟨x, y, z, rfl⟩
      · simp at hl
    obtain ⟨g, o, c', hve, hcs⟩ := i64_cells hv' (by simp)
    injection hve with q1 q2 q3
    subst q1
    have d0 := keeps_at hz (hcs 0 (by show 0 < 3; decide))
    have d1 := keeps_at hz (hcs 1 (by show 1 < 3; decide))
    have d2 := keeps_at hz (hcs 2 (by show 2 < 3; decide))
    simp only [List.getElem_cons_zero, List.getElem_cons_succ, Nat.add_zero] at d0 d1 d2
    clear hl hz hcs q2 q3 hv'
    have hcmp : ((sB instB).toList == [105, 110, 115, 116]) = true := by decide +kernel
    generalize sB instB = sw at *
    have hI : instD instB [x, y, z] = some ⟨x, y, z⟩ := rfl
    rw [hI]
    clear hI
    go_enter Tryd.func41, Tryd.ntmps41
    go_wp2_with fail
    go_region
    go_wp2_with fail
    obtain ⟨t0, t1, t2⟩ := cells3 (heap_alloc_new w (.cells #[.int .i64 x, .int .i64 y, .int .i64 z] 36))
    have t0' : (w.alloc (.cells #[.int .i64 x, .int .i64 y, .int .i64 z] 36)).drew.cell? ⟨w.heap.size, 0, none⟩ = _ := t0
    have t1' : (w.alloc (.cells #[.int .i64 x, .int .i64 y, .int .i64 z] 36)).drew.cell? ⟨w.heap.size, 1, none⟩ = _ := t1
    have t2' : (w.alloc (.cells #[.int .i64 x, .int .i64 y, .int .i64 z] 36)).drew.cell? ⟨w.heap.size, 2, none⟩ = _ := t2
    refine bodyPost_ret (v := .tuple #[inV ⟨x, y, z⟩, .bool true]) (by simp [results, Tryd.results41, go_sem, t0', t1', t2', inV]) rfl ?_
    exact ⟨rfl, ((Keeps.refl _ _).alloc _).drew⟩
  · have hI : instD instB ns = none := by
      unfold instD
      rw [if_pos rfl]
      rcases ns with _ | ⟨x, _ | ⟨y, _ | ⟨z, _ | ⟨u, r⟩⟩⟩⟩
      · rfl
      · rfl
      · rfl
      · exact absurd rfl hl
      · rfl
    rw [hI]
    have hcmp : ((sB instB).toList == [105, 110, 115, 116]) = true := by decide +kernel
    have hb : (((ns.length : Nat) : Int) != 3) = true := by simp; omega
    clear hI hv' hz hl
    generalize sB instB = sw at *
    go_enter Tryd.func41, Tryd.ntmps41
    go_wp2_with fail
    obtain ⟨t0, t1, t2⟩ := cells3 (heap_alloc_new w (.cells #[.int .i64 0, .int .i64 0, .int .i64 0] 36))
    have t0' : (w.alloc (.cells #[.int .i64 0, .int .i64 0, .int .i64 0] 36)).cell? ⟨w.heap.size, 0, none⟩ = _ := t0
    have t1' : (w.alloc (.cells #[.int .i64 0, .int .i64 0, .int .i64 0] 36)).cell? ⟨w.heap.size, 1, none⟩ = _ := t1
    have t2' : (w.alloc (.cells #[.int .i64 0, .int .i64 0, .int .i64 0] 36)).cell? ⟨w.heap.size, 2, none⟩ = _ := t2
    refine bodyPost_ret (v := .tuple #[inV ⟨0, 0, 0⟩, .bool false]) (by simp [results, Tryd.results41, go_sem, t0', t1', t2', inV]) rfl ?_
    exact ⟨⟨⟨0, 0, 0⟩, rfl⟩, ((Keeps.refl _ _).alloc _)⟩
set_option maxRecDepth 100000 in
set_option maxHeartbeats 2000000 in
theorem instOf_name (s : Bs) (hs : s ≠ instB) (v : Value) (ns : List Int) (w : World) (hF : FormsAt w) (hv : I64V w v ns) :
    Calls Tryd.prog 41 #[.string (sB s), v] w fun e w' => InstP (instD s ns) e ∧ Keeps w w' (fun _ => False) := by
  obtain ⟨p, c, hve, -⟩ := id hv
  have hz : Keeps w (w.alloc (.cells #[.int .i64 0, .int .i64 0, .int .i64 0] 36)) (fun _ => False) := (Keeps.refl _ _).alloc _
  have hcmp : ((sB s).toList == [105, 110, 115, 116]) = false := by
    have h1 := str_no (sB_ne hs)
    have h2 : (sB instB).toList = [105, 110, 115, 116] := by decide +kernel
    rw [h2] at h1
    exact h1
  have hO := opNamed_any s _ (hF.keeps hz)
  have hk := opD_lt s
  have hu := uses_le ⟨opD s, hk⟩
  have hc := keeps_at hz (hF (opD s) hk).2
  obtain ⟨R, hR⟩ : ∃ R, instD s ns = R := ⟨_, rfl⟩
  rw [hR]
  unfold instD at hR
  rw [if_neg hs] at hR
  rw [show ((⟨opD s, hk⟩ : Fin 30)).1 = opD s from rfl] at hu
  have hv' : 0 < ns.length → ∃ g o, p = some ⟨g, o, none⟩ ∧ ∀ j (hj : j < ns.length), (w.alloc (.cells #[.int .i64 0, .int .i64 0, .int .i64 0] 36)).cell? ⟨g, o + j, none⟩ = some (.int .i64 ns[j]) := fun h => by
    obtain ⟨g, o, c', e, f⟩ := i64_cells hv (List.length_pos_iff.1 h)
    rw [hve] at e
    injection e with e1 e2 e3
    exact ⟨g, o, e1, fun j hj => keeps_at hz (f j hj)⟩
  generalize usC (opD s) = u at *
  generalize opD s = k at *
  subst hve
  have Hv := hide hv'
  have hk' : (k : Int) < 30 := by omega
  clear hv hv' hF hs hz
  generalize sB s = sw at *
  by_cases h0 : k = 0
  · rw [if_pos h0] at hR
    subst hR
    have e0 : (((k : Nat) : Int) == 0) = true := by simp [h0]
    clear h0
    go_enter Tryd.func41, Tryd.ntmps41
    go_wp2_with fail
    (with_reducible refine hO.mono ?_)
    rintro e w1 ⟨rfl, rfl⟩
    clear hO
    go_wp2_with fail
    obtain ⟨t0, t1, t2⟩ := cells3 (heap_alloc_new w (.cells #[.int .i64 0, .int .i64 0, .int .i64 0] 36))
    have t0' : (w.alloc (.cells #[.int .i64 0, .int .i64 0, .int .i64 0] 36)).cell? ⟨w.heap.size, 0, none⟩ = _ := t0
    have t1' : (w.alloc (.cells #[.int .i64 0, .int .i64 0, .int .i64 0] 36)).cell? ⟨w.heap.size, 1, none⟩ = _ := t1
    have t2' : (w.alloc (.cells #[.int .i64 0, .int .i64 0, .int .i64 0] 36)).cell? ⟨w.heap.size, 2, none⟩ = _ := t2
    refine bodyPost_ret (v := .tuple #[inV ⟨0, 0, 0⟩, .bool false]) (by simp [results, Tryd.results41, go_sem, t0', t1', t2', inV]) rfl ?_
    exact ⟨⟨⟨0, 0, 0⟩, rfl⟩, ((Keeps.refl _ _).alloc _)⟩
  rw [if_neg h0] at hR
  have e0 : (((k : Nat) : Int) == 0) = false := by simp [h0]
  clear h0
  by_cases h1 : u = 0
  · rw [if_pos h1] at hR
    have e1 : (((u : Nat) : Int) == 0) = true := by simp [h1]
    by_cases h2 : ns = []
    · rw [if_pos h2] at hR
      subst hR
      subst h2
      clear h1 hu Hv
      go_enter Tryd.func41, Tryd.ntmps41
      go_wp2_with fail
      (with_reducible refine hO.mono ?_)
      rintro e w1 ⟨rfl, rfl⟩
      clear hO
      go_wp2_with fail
      obtain ⟨t0, t1, t2⟩ := cells3 (heap_alloc_new w (.cells #[.int .i64 (k : Int), .int .i64 0, .int .i64 0] 36))
      have t0' : (w.alloc (.cells #[.int .i64 (k : Int), .int .i64 0, .int .i64 0] 36)).cell? ⟨w.heap.size, 0, none⟩ = _ := t0
      have t1' : (w.alloc (.cells #[.int .i64 (k : Int), .int .i64 0, .int .i64 0] 36)).cell? ⟨w.heap.size, 1, none⟩ = _ := t1
      have t2' : (w.alloc (.cells #[.int .i64 (k : Int), .int .i64 0, .int .i64 0] 36)).cell? ⟨w.heap.size, 2, none⟩ = _ := t2
      refine bodyPost_ret (v := .tuple #[inV ⟨(k : Int), 0, 0⟩, .bool true]) (by simp [results, Tryd.results41, go_sem, t0', t1', t2', inV]) rfl ?_
      exact ⟨rfl, ((Keeps.refl _ _).alloc _)⟩
    · rw [if_neg h2] at hR
      subst hR
      have e2 : (((ns.length : Nat) : Int) == 0) = false := by simp [h2]
      clear h1 h2 hu Hv
      go_enter Tryd.func41, Tryd.ntmps41
      go_wp2_with fail
      (with_reducible refine hO.mono ?_)
      rintro e w1 ⟨rfl, rfl⟩
      clear hO
      go_wp2_with fail
      obtain ⟨t0, t1, t2⟩ := cells3 (heap_alloc_new w (.cells #[.int .i64 (k : Int), .int .i64 0, .int .i64 0] 36))
      have t0' : (w.alloc (.cells #[.int .i64 (k : Int), .int .i64 0, .int .i64 0] 36)).cell? ⟨w.heap.size, 0, none⟩ = _ := t0
      have t1' : (w.alloc (.cells #[.int .i64 (k : Int), .int .i64 0, .int .i64 0] 36)).cell? ⟨w.heap.size, 1, none⟩ = _ := t1
      have t2' : (w.alloc (.cells #[.int .i64 (k : Int), .int .i64 0, .int .i64 0] 36)).cell? ⟨w.heap.size, 2, none⟩ = _ := t2
      refine bodyPost_ret (v := .tuple #[inV ⟨(k : Int), 0, 0⟩, .bool false]) (by simp [results, Tryd.results41, go_sem, t0', t1', t2', inV]) rfl ?_
      exact ⟨⟨⟨k, 0, 0⟩, rfl⟩, ((Keeps.refl _ _).alloc _)⟩
  rw [if_neg h1] at hR
  have e1 : (((u : Nat) : Int) == 0) = false := by simp [h1]
  clear h1
  by_cases h2 : ns.length = 1
  · obtain ⟨x, rfl⟩ : ∃ x, ns = [x] := by
      rcases ns with _ | ⟨x, _ | ⟨y, r⟩⟩
      · cases h2
      · exact ⟨x, rfl⟩
      · simp at h2
    obtain ⟨g, o, rfl, hcs⟩ := Hv.out (by show 0 < 1; decide)
    have d0 := hcs 0 (by show 0 < 1; decide)
    simp only [List.getElem_cons_zero, Nat.add_zero] at d0
    by_cases h3 : u = 1
    · have hR2 : some ⟨(k : Int), 0, x⟩ = R := by
        rw [← hR]
        show _ = if u = 1 then some (⟨(k : Int), 0, x⟩ : In) else _
        rw [if_pos h3]
      subst hR2
      have e3 : (((u : Nat) : Int) == 1) = true := by simp [h3]
      clear h2 h3 hu Hv hcs hR
      go_enter Tryd.func41, Tryd.ntmps41
      go_wp2_with fail
      (with_reducible refine hO.mono ?_)
      rintro e w1 ⟨rfl, rfl⟩
      clear hO
      go_wp2_with fail
      obtain ⟨t0, t1, t2⟩ := cells3 (heap_alloc_new w (.cells #[.int .i64 (k : Int), .int .i64 0, .int .i64 x] 36))
      have t0' : (w.alloc (.cells #[.int .i64 (k : Int), .int .i64 0, .int .i64 x] 36)).cell? ⟨w.heap.size, 0, none⟩ = _ := t0
      have t1' : (w.alloc (.cells #[.int .i64 (k : Int), .int .i64 0, .int .i64 x] 36)).cell? ⟨w.heap.size, 1, none⟩ = _ := t1
      have t2' : (w.alloc (.cells #[.int .i64 (k : Int), .int .i64 0, .int .i64 x] 36)).cell? ⟨w.heap.size, 2, none⟩ = _ := t2
      refine bodyPost_ret (v := .tuple #[inV ⟨(k : Int), 0, x⟩, .bool true]) (by simp [results, Tryd.results41, go_sem, t0', t1', t2', inV]) rfl ?_
      exact ⟨rfl, ((Keeps.refl _ _).alloc _)⟩
    · have hR2 : some ⟨(k : Int), x, 0⟩ = R := by
        rw [← hR]
        show _ = if u = 1 then _ else some (⟨(k : Int), x, 0⟩ : In)
        rw [if_neg h3]
      subst hR2
      have e3 : (((u : Nat) : Int) == 1) = false := by simp; omega
      clear h2 h3 hu Hv hcs hR
      go_enter Tryd.func41, Tryd.ntmps41
      go_wp2_with fail
      (with_reducible refine hO.mono ?_)
      rintro e w1 ⟨rfl, rfl⟩
      clear hO
      go_wp2_with fail
      obtain ⟨t0, t1, t2⟩ := cells3 (heap_alloc_new w (.cells #[.int .i64 (k : Int), .int .i64 x, .int .i64 0] 36))
      have t0' : (w.alloc (.cells #[.int .i64 (k : Int), .int .i64 x, .int .i64 0] 36)).cell? ⟨w.heap.size, 0, none⟩ = _ := t0
      have t1' : (w.alloc (.cells #[.int .i64 (k : Int), .int .i64 x, .int .i64 0] 36)).cell? ⟨w.heap.size, 1, none⟩ = _ := t1
      have t2' : (w.alloc (.cells #[.int .i64 (k : Int), .int .i64 x, .int .i64 0] 36)).cell? ⟨w.heap.size, 2, none⟩ = _ := t2
      refine bodyPost_ret (v := .tuple #[inV ⟨(k : Int), x, 0⟩, .bool true]) (by simp [results, Tryd.results41, go_sem, t0', t1', t2', inV]) rfl ?_
      exact ⟨rfl, ((Keeps.refl _ _).alloc _)⟩
  · have hR2 : none = R := by
      rw [← hR]
      rcases ns with _ | ⟨x, _ | ⟨y, r⟩⟩
      · rfl
      · exact absurd rfl h2
      · rfl
    subst hR2
    have e2 : (((ns.length : Nat) : Int) != 1) = true := by simp; omega
    clear h2 hu Hv hR
    go_enter Tryd.func41, Tryd.ntmps41
    go_wp2_with fail
    (with_reducible refine hO.mono ?_)
    rintro e w1 ⟨rfl, rfl⟩
    clear hO
    go_wp2_with fail
    obtain ⟨t0, t1, t2⟩ := cells3 (heap_alloc_new w (.cells #[.int .i64 0, .int .i64 0, .int .i64 0] 36))
    have t0' : (w.alloc (.cells #[.int .i64 0, .int .i64 0, .int .i64 0] 36)).cell? ⟨w.heap.size, 0, none⟩ = _ := t0
    have t1' : (w.alloc (.cells #[.int .i64 0, .int .i64 0, .int .i64 0] 36)).cell? ⟨w.heap.size, 1, none⟩ = _ := t1
    have t2' : (w.alloc (.cells #[.int .i64 0, .int .i64 0, .int .i64 0] 36)).cell? ⟨w.heap.size, 2, none⟩ = _ := t2
    refine bodyPost_ret (v := .tuple #[inV ⟨0, 0, 0⟩, .bool false]) (by simp [results, Tryd.results41, go_sem, t0', t1', t2', inV]) rfl ?_
    exact ⟨⟨⟨0, 0, 0⟩, rfl⟩, ((Keeps.refl _ _).alloc _)⟩
theorem instOf_any (s : Bs) (v : Value) (ns : List Int) (w : World) (hF : FormsAt w) (hv : I64V w v ns) :
    Calls Tryd.prog 41 #[.string (sB s), v] w fun e w' => InstP (instD s ns) e ∧ Keeps w w' (fun _ => False) := by
  by_cases h : s = instB
  · subst h
    exact instOf_inst v ns w hv
  · exact instOf_name s h v ns w hF hv
end Cw
end Go.Proofs.YtnicbillhlhmmaaDoor
