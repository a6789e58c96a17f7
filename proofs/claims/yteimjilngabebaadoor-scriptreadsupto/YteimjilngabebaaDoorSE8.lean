/-
  script: the reference's pieces.
-/
import Derived.Test.YteimjilngabebaaDoorSE7
namespace Go.Proofs.YteimjilngabebaaDoor
open Go.RowKit
set_option linter.unusedVariables false
theorem flat_join : ∀ (ds : List (List UInt8)) (last : List UInt8), (ds.map (· ++ [32])).flatten ++ last = Lib.join (ds ++ [last]) [32]
  | [], last => by simp [Lib.join_one]
  | d :: ds, last => by
    have ih := flat_join ds last
    rw [List.map_cons, List.flatten_cons, List.cons_append, Lib.join_cons, List.append_assoc, ih]
    cases hds : ds ++ [last] with
    | nil => simp at hds
    | cons y r =>
      rw [Lib.join_cons]
      simp [Lib.joinTail]
theorem pieces_words {line : ByteArray} {done : List ByteArray} {f : Nat} (hf : f ≤ line.size) (hd : line.data.toList.take f = (done.map (fun x => x.data.toList ++ [32])).flatten) (hnb : ∀ x, x ∈ done → NB x) (hlast : (32 : UInt8) ∉ line.data.toList.drop f) : wordsOf line = done ++ [line.extract f line.size] := by
  have hsz : line.data.toList.length = line.size := rfl
  have hl : (line.extract f line.size).data.toList = line.data.toList.drop f := by
    rw [ByteArray.data_extract]
    simp
    apply List.take_of_length_le
    rw [List.length_drop]
    omega
  have hnl : NB (line.extract f line.size) := by
    unfold NB
    rw [hl]
    exact hlast
  have hj : line.data.toList = Lib.join ((done ++ [line.extract f line.size]).map (·.data.toList)) [32] := by
    rw [List.map_append, List.map_cons, List.map_nil, hl, ← flat_join, List.map_map]
    rw [show ((fun x => x ++ [(32 : UInt8)]) ∘ fun x => x.data.toList) = (fun x : ByteArray => x.data.toList ++ [32]) from rfl, ← hd]
    exact (List.take_append_drop f _).symm
  cases hL : done ++ [line.extract f line.size] with
  | nil => simp at hL
  | cons x r =>
    have hall : ∀ y, y ∈ x :: r → NB y := fun y hy => by
      rw [← hL] at hy
      rcases List.mem_append.1 hy with h | h
      · exact hnb y h
      · rw [List.mem_singleton.1 h]
        exact hnl
    have e : line = joinD x r := by
      apply ByteArray.ext
      apply Array.toList_inj.1
      rw [hj, hL]
      rfl
    rw [e]
    exact words_join x r (hall x List.mem_cons_self) (fun y hy => hall y (List.mem_cons_of_mem _ hy))
/-- What pieces answers. -/
def PiecesR (line : ByteArray) (w : World) (e : Ending) (w' : World) : Prop := ∃ x xs g cap, wordsOf line = x :: xs ∧ e = .returned (.slice (some ⟨g, 0, none⟩) (xs.length + 1) cap) ∧ (∀ j u, ((x :: xs).map Value.string)[j]? = some u → w'.cell? ⟨g, j, none⟩ = some u) ∧ Keeps w w' (fun _ => False)
set_option maxRecDepth 100000 in
set_option maxHeartbeats 2000000 in
theorem pieces_any (line : ByteArray) (hs : line.size ≤ 8388608) (w : World) : Calls Tryd.prog 17 #[.string line] w fun e w' => PiecesR line w e w' := by
  have hsz : line.data.toList.length = line.size := rfl
  go_enter Tryd.func17, Tryd.ntmps17
  go_wp2_with fail
  go_loopw [3, 4, 5] (fun v3 v4 v5 wr => ∃ (i f : Nat) (done : List ByteArray), v5 = .int .i64 (i : Int) ∧ v4 = .int .i64 (f : Int) ∧ f ≤ i ∧ i ≤ line.size ∧ done.length ≤ f ∧ wr.ownsRow w.heap.size 9 1 v3 done.length (done.map Value.string) ∧ Hid (line.data.toList.take f = (done.map (fun x => x.data.toList ++ [32])).flatten ∧ (∀ x, x ∈ done → NB x) ∧ ∀ k, f ≤ k → k < i → line.data.toList[k]? ≠ some 32) ∧ Keeps w wr (fun _ => False)) (fun _ _ v5 _ => line.size - (intOf v5).toNat)
  case atStart => exact ⟨0, 0, [], rfl, rfl, Nat.le_refl _, Nat.zero_le _, Nat.le_refl _, ⟨rfl, Or.inl ⟨rfl, rfl⟩⟩, ⟨rfl, fun x hx => (by cases hx), fun k a b => by omega⟩, Keeps.refl _ _⟩
  case round =>
    obtain ⟨i, f, done, rfl, rfl, hfi, hi, hdf, hrow, HI, K⟩ := hrel
    have hzK := K.size
    by_cases hlt : i < line.size
    · have hlt' : (i : Int) < (line.size : Int) := by omega
      obtain ⟨x, hx⟩ : ∃ x, line[i] = x := ⟨_, rfl⟩
      have hxl : line.data.toList[i]? = some x := by
        rw [List.getElem?_eq_getElem (by omega), ← hx]
        rfl
      obtain ⟨a6, a7⟩ := wr64s (n := i) (by omega)
      have Hms : Hid (line.size - (i + 1) < line.size - i) := by show line.size - (i + 1) < line.size - i; omega
      by_cases h32 : x = 32
      · subst h32
        have hfi' : (f : Int) ≤ (i : Int) := by omega
        have hf0 : (0 : Int) ≤ (f : Int) := by omega
        have hi' : (i : Int) ≤ (line.size : Int) := by omega
        obtain ⟨g1, c1, w1, hr1, hown1, kk1, -⟩ := append_one (P := Tryd.prog) 38 9 (.string ⟨#[]⟩) 16 Tryd.underlying38 Tryd.infoS rfl (hrow.alloc (.cells #[.string (line.extract f i)] 9)) (heap_alloc_new wr (.cells #[.string (line.extract f i)] 9)) rfl (by omega) (by simp only [maxLen]; omega) (by rw [World.size_alloc]; omega)
        have kW1 : Keeps w w1 (fun _ => False) := (K.alloc _).trans kk1 (fun q hq e => by
          have := (ownsRow_block hrow e).1
          omega)
        have hEx : (line.extract f i).data.toList = (line.data.toList.drop f).take (i - f) := by
          rw [ByteArray.data_extract]
          simp
        have HN : Hid (w1.ownsRow w.heap.size 9 1 (.slice (some ⟨g1, 0, none⟩) (done.length + 1) c1) (done ++ [line.extract f i]).length ((done ++ [line.extract f i]).map Value.string) ∧ (done ++ [line.extract f i]).length ≤ i + 1 ∧ Keeps w w1 (fun _ => False)) := by
          refine ⟨?_, ?_, kW1⟩
          · simpa using hown1
          · simp
            omega
        have HJ : Hid (line.data.toList.take (i + 1) = ((done ++ [line.extract f i]).map (fun x => x.data.toList ++ [32])).flatten ∧ (∀ x, x ∈ done ++ [line.extract f i] → NB x) ∧ ∀ k, i + 1 ≤ k → k < i + 1 → line.data.toList[k]? ≠ some 32) := by
          refine ⟨?_, fun y hy => ?_, fun k a b => by omega⟩
          · rw [List.map_append, List.flatten_append, ← HI.out.1, List.map_cons, List.map_nil, List.flatten_cons, List.flatten_nil, List.append_nil, hEx]
            have hgi : line.data.toList[i]'(by omega) = 32 := by
              have := hxl
              rw [List.getElem?_eq_getElem (by omega)] at this
              exact Option.some.inj this
            rw [List.take_succ_eq_append_getElem (by omega), hgi, ← List.append_assoc]
            congr 1
            have : i = f + (i - f) := by omega
            conv => lhs; rw [this]
            exact List.take_add
          · rcases List.mem_append.1 hy with h | h
            · exact HI.out.2.1 y h
            · rw [List.mem_singleton.1 h]
              unfold NB
              rw [hEx]
              intro hm
              obtain ⟨k, hk, e⟩ := List.mem_iff_getElem.1 hm
              rw [List.getElem_take, List.getElem_drop] at e
              have hk2 : k < i - f := by
                rw [List.length_take] at hk
                omega
              refine HI.out.2.2 (f + k) (by omega) (by omega) ?_
              rw [List.getElem?_eq_getElem (by omega), e]
        clear hrow K hown1 kk1 kW1 HI hxl hEx hzK hsz
        go_wp2_with (first | (at_builtin; have _t := hr1; refine app_run _ rfl (.tmp 16) (.tmp 21) 38 rfl rfl rfl hr1 ?_; clear hr1))
        go_roundw
        case rel => exact ⟨i + 1, i + 1, done ++ [line.extract f i], by go_num, by go_num, Nat.le_refl _, hlt, HN.out.2.1, HN.out.1, HJ, HN.out.2.2⟩
        case measure => simp [intOf]; exact Hms.out
      · have y1 : ((x.toNat : Int) == 32) = false := by
          rw [beq_eq_false_iff_ne]
          intro e
          have e2 : x.toNat = 32 := by omega
          exact h32 (UInt8.toNat_inj.1 e2)
        have y2 : (x == 32) = false := by simpa using h32
        have HJ : Hid (line.data.toList.take f = (done.map (fun x => x.data.toList ++ [32])).flatten ∧ (∀ x, x ∈ done → NB x) ∧ ∀ k, f ≤ k → k < i + 1 → line.data.toList[k]? ≠ some 32) := by
          refine ⟨HI.out.1, HI.out.2.1, fun k a b e => ?_⟩
          by_cases hk : k = i
          · rw [hk, hxl] at e
            exact h32 (Option.some.inj e)
          · exact HI.out.2.2 k a (by omega) e
        have HRow := hide hrow
        have HK := hide K
        clear hrow K HI hxl hzK hsz h32
        go_wp2_with fail
        go_roundw
        case rel => exact ⟨i + 1, f, done, by go_num, rfl, by omega, hlt, hdf, HRow.out, HJ, HK.out⟩
        case measure => simp [intOf]; exact Hms.out
    · obtain rfl : i = line.size := by omega
      have hlt' : ¬ (line.size : Int) < (line.size : Int) := by omega
      have hfi' : (f : Int) ≤ (line.size : Int) := by omega
      have hf0 : (0 : Int) ≤ (f : Int) := by omega
      obtain ⟨g1, c1, w1, hr1, hown1, kk1, -⟩ := append_one (P := Tryd.prog) 38 9 (.string ⟨#[]⟩) 16 Tryd.underlying38 Tryd.infoS rfl (hrow.alloc (.cells #[.string (line.extract f line.size)] 9)) (heap_alloc_new wr (.cells #[.string (line.extract f line.size)] 9)) rfl (by omega) (by simp only [maxLen]; omega) (by rw [World.size_alloc]; omega)
      have kW1 : Keeps w w1 (fun _ => False) := (K.alloc _).trans kk1 (fun q hq e => by
        have := (ownsRow_block hrow e).1
        omega)
      have hW := pieces_words hfi HI.out.1 HI.out.2.1 (fun hm => by
        obtain ⟨k, hk, e⟩ := List.mem_iff_getElem.1 hm
        rw [List.getElem_drop] at e
        rw [List.length_drop] at hk
        refine HI.out.2.2 (f + k) (by omega) (by omega) ?_
        rw [List.getElem?_eq_getElem (by omega), e])
      have HF : Hid (PiecesR line w (Ending.returned (.slice (some ⟨g1, 0, none⟩) (done.length + 1) c1)) w1) := by
        cases hL : done ++ [line.extract f line.size] with
        | nil => simp at hL
        | cons x xs =>
          have hlen : done.length = xs.length := by
            have := congrArg List.length hL
            simpa using this
          refine ⟨x, xs, g1, c1, hW.trans hL, by rw [hlen], fun j u hj => ?_, kW1⟩
          have hj2 : j < done.length + 1 := by
            have := (List.getElem?_eq_some_iff.1 hj).1
            simp at this
            omega
          have h9 := hown1.cellAt j (by omega)
          rw [h9, ← hj, ← hL]
          simp
      clear hrow K hown1 kk1 kW1 HI hzK hsz hW
      go_wp2_with (first | (at_builtin; have _t := hr1; refine app_run _ rfl (.tmp 25) (.tmp 29) 38 rfl rfl rfl hr1 ?_; clear hr1))
      refine bodyPost_ret (v := .slice (some ⟨g1, 0, none⟩) (done.length + 1) c1) (by simp [results, Tryd.results17, go_sem]) rfl ?_
      exact HF.out
end Go.Proofs.YteimjilngabebaaDoor
