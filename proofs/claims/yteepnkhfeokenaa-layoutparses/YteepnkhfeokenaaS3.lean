import Derived.Test.YteepnkhfeokenaaS2
namespace Go.Proofs.Yteepnkhfeokenaa
open Go.RowKit

section
variable {w W W1 : World} {b b' q o : Nat} {v0 v1 v2 v3 v4 v5 v6 v7 v8 u0 u1 u2 u3 u4 u5 u6 u7 u8 z : Value}
theorem st_call (k : Kp W W1) (h : W.cell? ⟨b, 0, none⟩ = some v0 ∧ W.cell? ⟨b, 1, none⟩ = some v1 ∧ W.cell? ⟨b, 2, none⟩ = some v2 ∧ W.cell? ⟨b, 3, none⟩ = some v3 ∧ W.cell? ⟨b, 4, none⟩ = some v4 ∧ W.cell? ⟨b, 5, none⟩ = some v5 ∧ W.cell? ⟨b, 6, none⟩ = some v6 ∧ W.cell? ⟨b, 7, none⟩ = some v7 ∧ W.cell? ⟨b, 8, none⟩ = some v8 ∧ W.cell? ⟨b', 0, none⟩ = some u0 ∧ W.cell? ⟨b', 1, none⟩ = some u1 ∧ W.cell? ⟨b', 2, none⟩ = some u2 ∧ W.cell? ⟨b', 3, none⟩ = some u3 ∧ W.cell? ⟨b', 4, none⟩ = some u4 ∧ W.cell? ⟨b', 5, none⟩ = some u5 ∧ W.cell? ⟨b', 6, none⟩ = some u6 ∧ W.cell? ⟨b', 7, none⟩ = some u7 ∧ W.cell? ⟨b', 8, none⟩ = some u8 ∧ W.cell? ⟨q, o, none⟩ = some z ∧ Kp w W) : W1.cell? ⟨b, 0, none⟩ = some v0 ∧ W1.cell? ⟨b, 1, none⟩ = some v1 ∧ W1.cell? ⟨b, 2, none⟩ = some v2 ∧ W1.cell? ⟨b, 3, none⟩ = some v3 ∧ W1.cell? ⟨b, 4, none⟩ = some v4 ∧ W1.cell? ⟨b, 5, none⟩ = some v5 ∧ W1.cell? ⟨b, 6, none⟩ = some v6 ∧ W1.cell? ⟨b, 7, none⟩ = some v7 ∧ W1.cell? ⟨b, 8, none⟩ = some v8 ∧ W1.cell? ⟨b', 0, none⟩ = some u0 ∧ W1.cell? ⟨b', 1, none⟩ = some u1 ∧ W1.cell? ⟨b', 2, none⟩ = some u2 ∧ W1.cell? ⟨b', 3, none⟩ = some u3 ∧ W1.cell? ⟨b', 4, none⟩ = some u4 ∧ W1.cell? ⟨b', 5, none⟩ = some u5 ∧ W1.cell? ⟨b', 6, none⟩ = some u6 ∧ W1.cell? ⟨b', 7, none⟩ = some u7 ∧ W1.cell? ⟨b', 8, none⟩ = some u8 ∧ W1.cell? ⟨q, o, none⟩ = some z ∧ Kp w W1 := by
  obtain ⟨h0, h1, h2, h3, h4, h5, h6, h7, h8, e0, e1, e2, e3, e4, e5, e6, e7, e8, hz, k0⟩ := h
  exact ⟨k.cell h0, k.cell h1, k.cell h2, k.cell h3, k.cell h4, k.cell h5, k.cell h6, k.cell h7, k.cell h8, k.cell e0, k.cell e1, k.cell e2, k.cell e3, k.cell e4, k.cell e5, k.cell e6, k.cell e7, k.cell e8, k.cell hz, k0.trans k⟩
theorem st_drew (h : W.cell? ⟨b, 0, none⟩ = some v0 ∧ W.cell? ⟨b, 1, none⟩ = some v1 ∧ W.cell? ⟨b, 2, none⟩ = some v2 ∧ W.cell? ⟨b, 3, none⟩ = some v3 ∧ W.cell? ⟨b, 4, none⟩ = some v4 ∧ W.cell? ⟨b, 5, none⟩ = some v5 ∧ W.cell? ⟨b, 6, none⟩ = some v6 ∧ W.cell? ⟨b, 7, none⟩ = some v7 ∧ W.cell? ⟨b, 8, none⟩ = some v8 ∧ W.cell? ⟨b', 0, none⟩ = some u0 ∧ W.cell? ⟨b', 1, none⟩ = some u1 ∧ W.cell? ⟨b', 2, none⟩ = some u2 ∧ W.cell? ⟨b', 3, none⟩ = some u3 ∧ W.cell? ⟨b', 4, none⟩ = some u4 ∧ W.cell? ⟨b', 5, none⟩ = some u5 ∧ W.cell? ⟨b', 6, none⟩ = some u6 ∧ W.cell? ⟨b', 7, none⟩ = some u7 ∧ W.cell? ⟨b', 8, none⟩ = some u8 ∧ W.cell? ⟨q, o, none⟩ = some z ∧ Kp w W) : W.drew.cell? ⟨b, 0, none⟩ = some v0 ∧ W.drew.cell? ⟨b, 1, none⟩ = some v1 ∧ W.drew.cell? ⟨b, 2, none⟩ = some v2 ∧ W.drew.cell? ⟨b, 3, none⟩ = some v3 ∧ W.drew.cell? ⟨b, 4, none⟩ = some v4 ∧ W.drew.cell? ⟨b, 5, none⟩ = some v5 ∧ W.drew.cell? ⟨b, 6, none⟩ = some v6 ∧ W.drew.cell? ⟨b, 7, none⟩ = some v7 ∧ W.drew.cell? ⟨b, 8, none⟩ = some v8 ∧ W.drew.cell? ⟨b', 0, none⟩ = some u0 ∧ W.drew.cell? ⟨b', 1, none⟩ = some u1 ∧ W.drew.cell? ⟨b', 2, none⟩ = some u2 ∧ W.drew.cell? ⟨b', 3, none⟩ = some u3 ∧ W.drew.cell? ⟨b', 4, none⟩ = some u4 ∧ W.drew.cell? ⟨b', 5, none⟩ = some u5 ∧ W.drew.cell? ⟨b', 6, none⟩ = some u6 ∧ W.drew.cell? ⟨b', 7, none⟩ = some u7 ∧ W.drew.cell? ⟨b', 8, none⟩ = some u8 ∧ W.drew.cell? ⟨q, o, none⟩ = some z ∧ Kp w W.drew := by
  obtain ⟨h0, h1, h2, h3, h4, h5, h6, h7, h8, e0, e1, e2, e3, e4, e5, e6, e7, e8, hz, k0⟩ := h
  exact ⟨h0, h1, h2, h3, h4, h5, h6, h7, h8, e0, e1, e2, e3, e4, e5, e6, e7, e8, hz, k0.drew⟩
end

/-- A list that came in. -/
def InAt (w : World) (v : Value) (xs : List Int) : Prop :=
  (v = .slice none 0 0 ∧ xs = []) ∨ (∃ a c, v = .slice (some a) 0 c ∧ xs = []) ∨ ∃ g o c, v = .slice (some ⟨g, o, none⟩) xs.length c ∧ ∀ j (hj : j < xs.length), w.cell? ⟨g, o + j, none⟩ = some (.int .i64 xs[j])
theorem InAt.kp {w w1 : World} {v : Value} {xs : List Int} (h : InAt w v xs) (k : Kp w w1) : InAt w1 v xs := by
  rcases h with h | h | ⟨g, o, c, e, h⟩
  · exact Or.inl h
  · exact Or.inr (Or.inl h)
  · exact Or.inr (Or.inr ⟨g, o, c, e, fun j hj => k.cell (h j hj)⟩)

theorem parseD_wrong {xs : List Int} (h : xs.length ≠ 5) : parseD xs = (Lay.zero, 30) := by
  match xs, h with
  | [], _ => rfl
  | [_], _ => rfl
  | [_, _], _ => rfl
  | [_, _, _], _ => rfl
  | [_, _, _, _], _ => rfl
  | [_, _, _, _, _], h => exact absurd rfl h
  | _ :: _ :: _ :: _ :: _ :: _ :: _, _ => rfl
theorem five_of {xs : List Int} (h : xs.length = 5) : ∃ k e a b c, xs = [k, e, a, b, c] := by
  match xs, h with
  | [k, e, a, b, c], _ => exact ⟨k, e, a, b, c, rfl⟩

theorem ref_in {w : World} {v : Value} {xs : List Int} (h : InAt w v xs) :
    Calls Try.prog 4 #[v] w fun r w' => r = .returned (.tuple #[(parseD xs).1.val, .int .i64 (parseD xs).2]) ∧ Kp w w' := by
  rcases h with ⟨rfl, rfl⟩ | ⟨a, c, rfl, rfl⟩ | ⟨g, o, c, rfl, h⟩
  · exact ref_parse_wrong none 0 0 w (by omega)
  · exact ref_parse_wrong (some a) 0 c w (by omega)
  · by_cases h5 : xs.length = 5
    · obtain ⟨k, e, a, b, c', rfl⟩ := five_of h5
      exact ref_parse_five g o c k e a b c' w (h 0 (by simp)) (h 1 (by simp)) (h 2 (by simp)) (h 3 (by simp)) (h 4 (by simp))
    · rw [parseD_wrong h5]
      exact ref_parse_wrong _ _ c w h5
theorem spare_in {w : World} {v : Value} {xs : List Int} (h : InAt w v xs) (hn : xs.length ≤ 17592186044000) :
    Calls Try.prog 5 #[v] w fun r w' => SparePost w xs r w' := by
  rcases h with ⟨rfl, rfl⟩ | ⟨a, c, rfl, rfl⟩ | ⟨g, o, c, rfl, h⟩
  · exact spare_nil w
  · exact spare_some a c [] w (by simp) (fun j u hu => by simp [intCells] at hu)
  · refine spare_some ⟨g, o, none⟩ c xs w hn (fun j u hu => ?_)
    have hj : j < xs.length := by
      have := (List.getElem?_eq_some_iff.1 hu).1
      rwa [intCells_length] at this
    rw [intCells_get hj] at hu
    cases hu
    rw [addr0]
    exact h j hj
theorem parse_row {w : World} {xs : List Int} (h cap : Nat) (p1 : ∀ j (hj : j < xs.length), w.cell? ⟨h, j, none⟩ = some (.int .i64 xs[j])) :
    Calls Try.prog 6 #[.slice (some ⟨h, 0, none⟩) xs.length cap] w fun r w' => r = .returned (.tuple #[(parseD xs).1.val, .int .i64 (parseD xs).2]) ∧ Kp w w' := by
  by_cases h5 : xs.length = 5
  · obtain ⟨k, e, a, b, c', rfl⟩ := five_of h5
    exact parse_five h 0 cap k e a b c' w (p1 0 (by simp)) (p1 1 (by simp)) (p1 2 (by simp)) (p1 3 (by simp)) (p1 4 (by simp))
  · rw [parseD_wrong h5]
    exact parse_wrong _ _ cap w h5
theorem same_in {w : World} {v : Value} {xs : List Int} (h cap : Nat) (hv : InAt w v xs) (hn : xs.length ≤ 17592186044000) (hc : xs.length + 2 ≤ cap) (hm : cap ≤ 9223372036854775807)
    (p1 : ∀ j (hj : j < xs.length), w.cell? ⟨h, j, none⟩ = some (.int .i64 xs[j])) (p2 : w.cell? ⟨h, xs.length, none⟩ = some (.int .i64 77)) (p3 : w.cell? ⟨h, xs.length + 1, none⟩ = some (.int .i64 77)) :
    Calls Try.prog 7 #[.slice (some ⟨h, 0, none⟩) xs.length cap, v] w fun r w' => r = .returned (.bool true) ∧ Kp w w' := by
  rcases hv with ⟨rfl, rfl⟩ | ⟨a, c, rfl, rfl⟩ | ⟨g, o, c, rfl, hq⟩
  · exact same_zero h cap 0 none w hc hm p2 p3
  · exact same_zero h cap c (some a) w hc hm p2 p3
  · exact same_plain h cap g o c xs w hn hc hm p1 p2 p3 hq
end Go.Proofs.Yteepnkhfeokenaa
