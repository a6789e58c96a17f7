/-
  script: what the reference's guess makes of the words of an answer's line (as data).
-/
import Derived.Test.YteimjilngabebaaDoorSE9
namespace Go.Proofs.YteimjilngabebaaDoor
open Go.RowKit
set_option linter.unusedVariables false
theorem rowOp_name {op op' : Int} (ho : 1 ≤ op' ∧ op' ≤ 14) (h : RowOp (nameD op') op) : op = op' := by
  rcases h with ⟨i, hi, hx, rfl⟩ | ⟨hno, -⟩
  · exact (name_inj ho hi hx).2
  · obtain ⟨i, hi, e⟩ := name_there ho
    exact absurd e (hno i hi)
theorem rguess_told {op err n off : Int} {yes : Bool} {key elem : ByteArray} (ho : 1 ≤ op ∧ op ≤ 14) (he : Fit err) (hn : Fit n) (hf : Fit off)
    {err' n' off' : Int} {yes' : Bool} {key' elem' : ByteArray} (hg : RGX op (restD op err n off yes key elem) err' n' off' yes' key' elem') :
    err' = err ∧ n' = tN op err n ∧ off' = tOff op err n off ∧ yes' = tYes op err yes ∧ key' = tKey op err yes key ∧ elem' = tElem op err yes elem := by
  by_cases h0 : err = 0
  · subst h0
    have hr : restD op 0 n off yes key elem = wordsD op n off yes key elem := rfl
    rw [hr] at hg
    unfold tN tOff tYes tKey tElem
    by_cases hnum : op = 1 ∨ op = 5 ∨ op = 7 ∨ op = 8 ∨ op = 11 ∨ op = 12 ∨ op = 13
    · rw [wordsD_num hnum] at hg
      simp only [RGX] at hg
      rw [if_neg (by omega), if_neg (by omega), if_neg (by omega), if_neg (by omega), if_neg (by omega)] at hg
      obtain ⟨g1, g2, g3, g4, g5, g6⟩ := hg
      rw [if_pos ⟨rfl, by omega⟩, if_neg (by omega), if_neg (by omega), if_neg (by omega), if_neg (by omega)]
      exact ⟨g1, numR_self hn g2, g3, g4, g5, g6⟩
    · have h7 : op = 2 ∨ op = 3 ∨ op = 4 ∨ op = 6 ∨ op = 9 ∨ op = 10 ∨ op = 14 := by omega
      rcases h7 with h | h | h | h | h | h | h <;> subst h
      · cases yes
        · obtain ⟨g1, g2, g3, g4, g5, g6⟩ := (show RGX 2 [(⟨#[110, 111]⟩ : ByteArray)] _ _ _ _ _ _ from hg)
          exact ⟨g1, g2, g3, g4.trans (by simp [ByteArray.toList_eq]), g5, g6⟩
        · have hg2 : RGX 2 [(⟨#[121, 101, 115]⟩ : ByteArray), bytesD elem] err' n' off' yes' key' elem' := hg
          simp only [RGX] at hg2
          rw [if_neg (by decide), bytD_bytesD] at hg2
          obtain ⟨g1, g2, g3, g4, g5, g6⟩ := hg2
          exact ⟨g1, g2, g3, g4.trans (by simp [ByteArray.toList_eq]), g5, g6⟩
      · cases yes
        · obtain ⟨g1, g2, g3, g4, g5, g6⟩ := (show RGX 3 [(⟨#[111, 108, 100]⟩ : ByteArray)] _ _ _ _ _ _ from hg)
          exact ⟨g1, g2, g3, g4.trans (by simp [ByteArray.toList_eq]), g5, g6⟩
        · obtain ⟨g1, g2, g3, g4, g5, g6⟩ := (show RGX 3 [(⟨#[110, 101, 119]⟩ : ByteArray)] _ _ _ _ _ _ from hg)
          exact ⟨g1, g2, g3, g4.trans (by simp [ByteArray.toList_eq]), g5, g6⟩
      · cases yes
        · obtain ⟨g1, g2, g3, g4, g5, g6⟩ := (show RGX 4 [(⟨#[110, 111]⟩ : ByteArray)] _ _ _ _ _ _ from hg)
          exact ⟨g1, g2, g3, g4.trans (by simp [ByteArray.toList_eq]), g5, g6⟩
        · obtain ⟨g1, g2, g3, g4, g5, g6⟩ := (show RGX 4 [(⟨#[121, 101, 115]⟩ : ByteArray)] _ _ _ _ _ _ from hg)
          exact ⟨g1, g2, g3, g4.trans (by simp [ByteArray.toList_eq]), g5, g6⟩
      · exact (show RGX 6 [] _ _ _ _ _ _ from hg)
      · cases yes
        · obtain ⟨g1, g2, g3, g4, g5, g6⟩ := (show RGX 9 [(⟨#[100, 111, 110, 101]⟩ : ByteArray)] _ _ _ _ _ _ from hg)
          exact ⟨g1, g2, g3, g4.trans (by simp [ByteArray.toList_eq]), g5, g6⟩
        · have hg2 : RGX 9 [(⟨#[112, 97, 105, 114]⟩ : ByteArray), bytesD key, bytesD elem] err' n' off' yes' key' elem' := hg
          simp only [RGX] at hg2
          rw [if_neg (by decide), if_neg (by decide), if_neg (by decide), bytD_bytesD, bytD_bytesD] at hg2
          obtain ⟨g1, g2, g3, g4, g5, g6⟩ := hg2
          exact ⟨g1, g2, g3, g4.trans (by simp [ByteArray.toList_eq]), g5, g6⟩
      · exact (show RGX 10 [] _ _ _ _ _ _ from hg)
      · by_cases h14 : n = 0
        · subst h14
          obtain ⟨g1, g2, g3, g4, g5, g6⟩ := (show RGX 14 [(⟨#[102, 105, 110, 101]⟩ : ByteArray)] _ _ _ _ _ _ from hg)
          refine ⟨g1, g2.trans (by decide), g3.trans (by rw [if_neg (by simp)]), g4, g5, g6⟩
        · have hw : wordsD 14 n off yes key elem = [⟨#[114, 117, 108, 101]⟩, numD n, numD off] := by
            unfold wordsD
            rw [if_neg (by decide), if_neg (by decide), if_neg (by decide), if_neg (by decide), if_neg (by decide), if_neg (by decide), if_neg (by decide), if_neg (by decide), if_neg (by decide), if_neg (by decide), if_neg (by decide), if_pos rfl, if_neg h14]
          rw [hw] at hg
          simp only [RGX] at hg
          rw [if_neg (by decide), if_neg (by decide), if_neg (by decide), if_neg (by decide)] at hg
          obtain ⟨g1, g2, g3, g4, g5, g6⟩ := hg
          rw [if_pos ⟨rfl, by decide⟩, if_pos ⟨rfl, rfl, h14⟩, if_neg (by decide), if_neg (by simp), if_neg (by simp)]
          exact ⟨g1, numR_self hn g2, numR_self hf g3, g4, g5, g6⟩
  · have hr : restD op err n off yes key elem = [errB, numD err] := if_neg h0
    rw [hr] at hg
    simp only [RGX] at hg
    obtain ⟨g1, g2, g3, g4, g5, g6⟩ := hg
    unfold tN tOff tYes tKey tElem
    rw [if_neg (fun e => h0 e.1), if_neg (fun e => h0 e.1), if_neg (fun e => h0 e.1), if_neg (fun e => h0 e.1), if_neg (fun e => h0 e.1)]
    exact ⟨numR_self he g1, g2, g3, g4, g5, g6⟩
end Go.Proofs.YteimjilngabebaaDoor
