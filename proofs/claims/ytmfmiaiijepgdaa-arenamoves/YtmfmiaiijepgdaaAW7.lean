import Derived.Test.YtmfmiaiijepgdaaAW6
namespace Go.Proofs.Ytmfmiaiijepgdaa
open Go.RowKit Go.Shelf

/-- A way to take a block: where it lies, what the arena is then. -/
structure TakeOK (T : AD → Nat → Nat × AD) (G : AD → Prop) : Prop where
  call : ∀ {w : World} {p : Nat} {F : Nat → Prop} {d : AD} (c : Nat), G d → d.Fine → Arena w p F d → 16 ≤ c → c ≤ 1048576 → d.used + c ≤ d.limit →
    Calls Try.prog 35 #[.pointer (some ⟨p, 0, none⟩), .int .i64 (c : Int)] w fun e w' => TakePost w p F (T d c).1 (T d c).2 e w'
  fine : ∀ {d : AD} (c : Nat), G d → d.Fine → 16 ≤ c → c ≤ 1048576 → d.used + c ≤ d.limit → (T d c).2.Fine ∧ G (T d c).2 ∧ (T d c).2.used = d.used + c ∧ (T d c).2.limit = d.limit ∧ (T d c).1 ≤ 134217728
def takeAll (T : AD → Nat → Nat × AD) : AD → List Int → List Int × AD
  | d, [] => ([], d)
  | d, z :: r => let x := T d (classI z).toNat; let y := takeAll T x.2 r; ((x.1 : Int) :: y.1, y.2)
theorem takeAll_length (T : AD → Nat → Nat × AD) : ∀ (zs : List Int) (d : AD), (takeAll T d zs).1.length = zs.length
  | [], _ => rfl
  | z :: r, d => by simp [takeAll, takeAll_length T r]
theorem takeAll_snoc (T : AD → Nat → Nat × AD) : ∀ (zs : List Int) (z : Int) (d : AD), takeAll T d (zs ++ [z]) = ((takeAll T d zs).1 ++ [((T (takeAll T d zs).2 (classI z).toNat).1 : Int)], (T (takeAll T d zs).2 (classI z).toNat).2)
  | [], _, _ => rfl
  | y :: r, z, d => by simp [takeAll, takeAll_snoc T r]
theorem fitsIn_len : ∀ (zs : List Int) (room : Int), fitsIn room zs = true → allOne zs → 0 ≤ room → 16 * (zs.length : Int) ≤ room
  | [], _, _, _, h => by simpa using h
  | z :: r, room, h, ha, _ => by
    unfold fitsIn at h
    split at h
    · cases h
    · rename_i hn
      have h1 : 1 ≤ z := ha z (by simp)
      have hc : 16 ≤ classI z := by
        unfold classI at hn ⊢
        by_cases hz : 1 ≤ z ∧ z ≤ 1048576
        · rw [if_pos hz]
          have := class_le z.toNat (by omega) (by omega)
          omega
        · rw [if_neg hz] at hn
          exact absurd (Or.inl rfl) hn
      have := fitsIn_len r (room - classI z) h (fun y hy => ha y (by simp [hy])) (by omega)
      simp
      omega
/-- What holds behind the first k of them. -/
theorem takeAll_take {T : AD → Nat → Nat × AD} {G : AD → Prop} (hT : TakeOK T G) {d : AD} (hG : G d) (hF : d.Fine) {zs : List Int} (ha : allOne zs) (hf : fitsIn ((d.limit : Int) - (d.used : Int)) zs = true) : ∀ k, k ≤ zs.length →
    (takeAll T d (zs.take k)).2.Fine ∧ G (takeAll T d (zs.take k)).2 ∧ (takeAll T d (zs.take k)).2.limit = d.limit ∧ fitsIn ((d.limit : Int) - ((takeAll T d (zs.take k)).2.used : Int)) (zs.drop k) = true
  | 0, _ => ⟨hF, hG, rfl, hf⟩
  | k + 1, hk => by
    obtain ⟨f1, f2, f3, f4⟩ := takeAll_take hT hG hF ha hf k (by omega)
    have hlt : k < zs.length := by omega
    rw [List.take_succ_eq_append_getElem hlt, takeAll_snoc]
    rw [fitsIn_drop_succ hlt] at f4
    have hz1 : 1 ≤ zs[k] := ha _ (List.getElem_mem hlt)
    split at f4
    · cases f4
    · rename_i hn
      have hb := classI_bounds zs[k]
      have hz2 : zs[k] ≤ 1048576 := by
        rcases Int.lt_or_le 1048576 zs[k] with h | h
        · exfalso
          exact hn (Or.inl (by unfold classI; rw [if_neg (by omega)]))
        · exact h
      have hc16 : 16 ≤ (classI zs[k]).toNat := by
        unfold classI
        rw [if_pos ⟨hz1, hz2⟩]
        have := class_le zs[k].toNat (by omega) (by omega)
        omega
      obtain ⟨g1, g2, g3, g4, _⟩ := hT.fine (classI zs[k]).toNat f2 f1 hc16 (by omega) (by rw [f3]; omega)
      refine ⟨g1, g2, by rw [g4, f3], ?_⟩
      rw [g3]
      have e : (d.limit : Int) - (((takeAll T d (zs.take k)).2.used + (classI zs[k]).toNat : Nat) : Int) = (d.limit : Int) - ((takeAll T d (zs.take k)).2.used : Int) - classI zs[k] := by omega
      rw [e]
      exact f4
/-- .. and the next one. -/
theorem takeAll_next {T : AD → Nat → Nat × AD} {G : AD → Prop} (hT : TakeOK T G) {d : AD} (hG : G d) (hF : d.Fine) {zs : List Int} (ha : allOne zs) (hf : fitsIn ((d.limit : Int) - (d.used : Int)) zs = true) {k : Nat} (hk : k < zs.length) :
    16 ≤ (classI zs[k]).toNat ∧ (classI zs[k]).toNat ≤ 1048576 ∧ (takeAll T d (zs.take k)).2.used + (classI zs[k]).toNat ≤ (takeAll T d (zs.take k)).2.limit ∧ classI zs[k] = ((classI zs[k]).toNat : Int) := by
  obtain ⟨f1, f2, f3, f4⟩ := takeAll_take hT hG hF ha hf k (by omega)
  rw [fitsIn_drop_succ hk] at f4
  have hz1 : 1 ≤ zs[k] := ha _ (List.getElem_mem hk)
  split at f4
  · cases f4
  · rename_i hn
    have hb := classI_bounds zs[k]
    have hz2 : zs[k] ≤ 1048576 := by
      rcases Int.lt_or_le 1048576 zs[k] with h | h
      · exfalso
        exact hn (Or.inl (by unfold classI; rw [if_neg (by omega)]))
      · exact h
    have hc16 : 16 ≤ (classI zs[k]).toNat := by
      unfold classI
      rw [if_pos ⟨hz1, hz2⟩]
      have := class_le zs[k].toNat (by omega) (by omega)
      omega
    exact ⟨hc16, by omega, by rw [f3]; omega, by omega⟩

/-- The row of k offsets that are told and zeros behind. -/
def offRow (n : Nat) (xs : List Int) : Array Value := ((xs ++ List.replicate (n - xs.length) 0).map cellI).toArray
theorem offRow_size {n : Nat} {xs : List Int} (h : xs.length ≤ n) : (offRow n xs).size = n := by simp [offRow]; omega
theorem offRow_zero (n : Nat) : madeCells (Value.int .i64 0).cells (n * 1) = offRow n [] := by
  apply Array.ext
  · simp [size_madeCells, offRow]
  · intro i h1 h2
    simp [madeCells, Value.cells, offRow, cellI, Nat.mod_one]
theorem offRow_set {n : Nat} {xs : List Int} (x : Int) (h : xs.length < n) : (offRow n xs).setIfInBounds xs.length (cellI x) = offRow n (xs ++ [x]) := by
  apply Array.ext'
  obtain ⟨m, hm⟩ : ∃ m, n - xs.length = m + 1 := ⟨n - xs.length - 1, by omega⟩
  have hm' : n - (xs.length + 1) = m := by omega
  rw [Array.toList_setIfInBounds]
  simp [offRow, hm, hm', List.replicate_succ]
theorem offRow_full (xs : List Int) : offRow xs.length xs = (xs.map cellI).toArray := by simp [offRow]

def AllPost (w : World) (p : Nat) (F : Nat → Prop) (offs : List Int) (d' : AD) (e : Ending) (w' : World) : Prop :=
  ∃ h, w.heap.size ≤ h ∧ e = .returned (.tuple #[.slice (some ⟨h, 0, none⟩) offs.length offs.length, .int .i64 0]) ∧ w'.heap[h]? = some (.cells (offs.map cellI).toArray 3) ∧
    Arena w' p (fun k => (F k ∨ w.heap.size ≤ k) ∧ k ≠ h) d' ∧ Keeps w w' F
end Go.Proofs.Ytmfmiaiijepgdaa
