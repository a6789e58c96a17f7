/-
  code: numbersOf.
-/
import Derived.Test.YtnicbillhlhmmaaDoorCW5
import Derived.Test.YtnicbillhlhmmaaDoorShelfC3
import Derived.Lib.AtoiErrMem
namespace Go.Proofs.YtnicbillhlhmmaaDoor
namespace Cw
open Go.RowKit
set_option linter.unusedVariables false
/-- The library's two errors and the longest search: some values. -/
structure ErrW (w : World) : Prop where
  syn : ∃ ev, w.cell? ⟨5, 0, none⟩ = some ev ∧ (ev = .nilIface ∨ ∃ te pe, ev = .iface te pe)
  rng : ∃ ev, w.cell? ⟨6, 0, none⟩ = some ev ∧ (ev = .nilIface ∨ ∃ te pe, ev = .iface te pe)
  max : ∃ m, w.cell? ⟨4, 0, none⟩ = some (.int .i64 m)
theorem ErrW.keeps {w w' : World} (h : ErrW w) (k : Keeps w w' (fun _ => False)) : ErrW w' := by
  obtain ⟨e1, a1, b1⟩ := h.syn
  obtain ⟨e2, a2, b2⟩ := h.rng
  obtain ⟨m, a3⟩ := h.max
  exact ⟨⟨e1, keeps_at k a1, b1⟩, ⟨e2, keeps_at k a2, b2⟩, ⟨m, keeps_at k a3⟩⟩
theorem parse_fits {l : List UInt8} {v : Int} (h : Lib.parseIntB 64 l = .ok v) : Fit v := by
  unfold Lib.parseIntB at h
  split at h
  · cases h
  · dsimp only at h
    split at h
    · cases h
    · cases h
    · rename_i u heq
      split at h
      · cases h
      · rename_i q1
        split at h
        · cases h
        · rename_i q2
          injection h with h
          subst h
          unfold Fit
          split
          · rename_i q3
            have : ¬ 2 ^ (64 - 1) < u := fun z => q2 ⟨q3, z⟩
            have e : (2 : Nat) ^ (64 - 1) = 9223372036854775808 := by decide
            omega
          · rename_i q3
            have : ¬ 2 ^ (64 - 1) ≤ u := fun z => q1 ⟨q3, z⟩
            have e : (2 : Nat) ^ (64 - 1) = 9223372036854775808 := by decide
            omega
/-- ParseInt: a number, or some error. -/
theorem parse_any (s : ByteArray) (hs : s.size ≤ 8388608) (w : World) (he : ErrW w) : Calls Tryd.prog 56 #[.string s, .int .i64 10, .int .i64 64] w fun e w' => ((∃ n, e = .returned (.tuple #[.int .i64 n, .nilIface]) ∧ Fit n ∧ Lib.parseIntB 64 s.data.toList = .ok n) ∨ (∃ n te pe, e = .returned (.tuple #[.int .i64 n, .iface te pe]) ∧ ∀ v, Lib.parseIntB 64 s.data.toList ≠ .ok v)) ∧ Keeps w w' (fun _ => False) := by
  cases h : Lib.parseIntB 64 s.data.toList with
  | ok v =>
    refine (Tryd.strconv_ParseInt_10_at64_ok s (by omega) v h w).mono ?_
    rintro e w' ⟨rfl, hw⟩
    refine ⟨Or.inl ⟨v, rfl, parse_fits h, rfl⟩, ?_⟩
    rcases hw with rfl | ⟨t, rfl⟩
    · exact Keeps.refl _ _
    · exact keepsW (Lib.bytesWorld_below w 5 t)
  | «syntax» =>
    obtain ⟨ev, h1, h2⟩ := he.syn
    refine (Tryd.strconv_ParseInt_10_at64_syntax s (by omega) h ev w h1 h2).mono ?_
    rintro e w' ⟨N, rfl, -, -, hb⟩
    exact ⟨Or.inr ⟨_, _, _, rfl, fun v e => by cases e⟩, keepsW hb⟩
  | range =>
    obtain ⟨ev, h1, h2⟩ := he.rng
    refine (Tryd.strconv_ParseInt_10_at64_range s (by omega) h ev w h1 h2).mono ?_
    rintro e w' ⟨N, rfl, -, -, hb⟩
    exact ⟨Or.inr ⟨_, _, _, rfl, fun v e => by cases e⟩, keepsW hb⟩
/-- Texts in a list, somewhere. -/
def StrV (W : World) (v : Value) (ws : List Bs) : Prop := ∃ p c, v = .slice p ws.length c ∧ ∀ j (h : j < ws.length), ∃ g o, p = some ⟨g, o, none⟩ ∧ W.cell? ⟨g, o + j, none⟩ = some (.string (sB ws[j]))
theorem StrV.keeps {W W' : World} {v : Value} {ws : List Bs} (h : StrV W v ws) (k : Keeps W W' (fun _ => False)) : StrV W' v ws := by
  obtain ⟨p, c, e, f⟩ := h
  refine ⟨p, c, e, fun j hj => ?_⟩
  obtain ⟨g, o, e1, e2⟩ := f j hj
  exact ⟨g, o, e1, keeps_at k e2⟩
theorem i64_own {W : World} {base n : Nat} {v : Value} {ns : List Int} (h : W.ownsRow base 2 1 v n (ns.map fun n => Value.int .i64 n)) : I64V W v ns := by
  have hl : ns.length = n := by have := h.1; simpa using this
  rcases h.2 with ⟨h2, h3⟩ | ⟨g, cap, cur, e1, e2, e3, e4, e5, e6, e7⟩
  · subst h2
    subst h3
    obtain rfl : ns = [] := List.length_eq_zero_iff.1 hl
    exact I64V.nil _
  · subst hl
    refine ⟨_, cap, e1, fun j hj => ⟨g, 0, cur, (0, 0), rfl, e3, ?_⟩⟩
    rw [Nat.mul_one] at e7
    have : (ns.map fun n => Value.int .i64 n)[j]? = some (.int .i64 ns[j]) := by
      rw [List.getElem?_map, List.getElem?_eq_getElem hj]
      rfl
    rw [← e7, List.getElem?_take, if_pos hj, Array.getElem?_toList] at this
    rw [Nat.zero_add]
    exact this
theorem Tryd.infoI : (Tryd.prog.info? 2).map (fun i => (i.zero, i.size, i.bytes)) = some (some (.int .i64 0), 1, 8) := by kernel_rfl
/-- One number more. -/
theorem nums_more {lo n : Nat} {w : World} {r : Value} {ns : List Int} (h : w.ownsRow lo 2 1 r n (ns.map fun n => Value.int .i64 n)) (x : Int) (hn : n ≤ 8388608) (hlo : lo ≤ w.heap.size) :
    ∃ g c w', (∀ ty, (Builtin.append_ #[69, 69] ty #[r, .slice (some ⟨w.heap.size, 0, none⟩) 1 1]).run Tryd.prog (w.alloc (.cells #[.int .i64 x] 2)) = .ok (.slice (some ⟨g, 0, none⟩) (n + 1) c) w') ∧ w'.ownsRow lo 2 1 (.slice (some ⟨g, 0, none⟩) (n + 1) c) (n + 1) ((ns ++ [x]).map fun n => Value.int .i64 n) ∧ Keeps w w' (fun k => r.ownBlock = some k) := by
  obtain ⟨g, c, w', h1, h2, h3, -⟩ := append_one (P := Tryd.prog) 69 2 (.int .i64 0) 8 Tryd.underlying69 Tryd.infoI rfl (World.ownsRow.alloc h (.cells #[.int .i64 x] 2)) (heap_alloc_new w (.cells #[.int .i64 x] 2)) rfl (by omega) (by simp only [maxLen]; omega) (by simp; omega)
  refine ⟨g, c, w', h1, ?_, (((Keeps.refl w (fun k => r.ownBlock = some k)).alloc _)).trans h3 (fun _ _ e => e)⟩
  rw [List.map_append]
  exact h2
theorem own_keeps_all {lo n : Nat} {w0 w w' : World} {T : TypeId} {r : Value} {xs : List Value} (h : w.ownsRow lo T 1 r n xs) (k0 : Keeps w0 w (fun _ => False)) (hlo : w0.heap.size ≤ lo) (k : Keeps w w' (fun k => r.ownBlock = some k)) : Keeps w0 w' (fun _ => False) := by
  refine k0.trans k (fun q hq e => ?_)
  have := (ownsRow_block h e).1
  omega
theorem numsD_step {ws : List Bs} {i : Nat} (h : i < ws.length) {acc : List Int} (e : numsD ws = (numsD (ws.drop i)).map (acc ++ ·)) : (numD1 ws[i] = none → numsD ws = none) ∧ ∀ x, numD1 ws[i] = some x → numsD ws = (numsD (ws.drop (i + 1))).map ((acc ++ [x]) ++ ·) := by
  rw [List.drop_eq_getElem_cons h, numsD] at e
  refine ⟨fun q => by rw [e, q]; rfl, fun x q => ?_⟩
  rw [e, q]
  cases numsD (ws.drop (i + 1)) with
  | none => rfl
  | some r => simp
end Cw
end Go.Proofs.YtnicbillhlhmmaaDoor
