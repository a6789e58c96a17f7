import Derived.Test.YteglefnfnkgpcaaRows
import Derived.SizedLaws
import Derived.Deep.SlicePairs
import Derived.WalkKit
import Derived.ProofKit
import Derived.OpenShut
import Derived.ShutString
import Derived.ChangeOld
import Derived.Below
import Derived.Carry
import Derived.Lib.SmallJoins
import Derived.Deep.Slices
import Derived.Test.YteglefnfnkgpcaaRn11
/-
  The law's takes.
-/
namespace Go.Proofs.Yteglefnfnkgpcaa
open Go.RowKit Go.Shelf
set_option linter.unusedVariables false

/-- What takes leaves: the book as it was, or one block more in it. -/
def TakesPost (w : World) (p lim : Nat) (vb : Value) (L : List (Nat × Nat × Nat)) (ve : Value) (ys : List Int) (e : Ending) (w' : World) : Prop :=
  ∃ vb' L' d', e = .returned (.tuple #[vb', .bool true]) ∧ OwnK w w' p vb' L' ve ys d' ∧ d'.limit = lim ∧ d'.Fine ∧ d'.Well ∧ Book d' L' ∧ ((vb' = vb ∧ L' = L) ∨ ∃ x, L' = L ++ [x])

section
variable {w w1 : World} {p : Nat} {vb ve : Value} {L : List (Nat × Nat × Nat)} {ys : List Int} {d : AD}

set_option maxRecDepth 100000 in
set_option maxHeartbeats 4000000 in
theorem takes_no (h : OwnK w w1 p vb L ve ys d) (hF : d.Fine) (hW : d.Well) (hB : Book d L) (n : Int) (u : UInt8) (hn : n < 1 ∨ 1048576 < n) :
    Calls Try.prog 26 #[.pointer (some ⟨p, 0, none⟩), vb, .int .i64 (d.limit : Int), .int .i64 n, .int .u8 (u.toNat : Int)] w1 fun e w' => TakesPost w p d.limit vb L ve ys e w' := by
  have hnum := fun x W => num_any x W
  have hA := own_alloc_any h.own hF hW n
  have HS : Hid (∀ W, Keeps w1 W (fun _ => False) → TakesPost w p d.limit vb L ve ys (.returned (.tuple #[vb, .bool true])) W) := fun W k => ⟨vb, L, d, rfl, h.stay k, rfl, hF, hW, hB, Or.inl ⟨rfl, rfl⟩⟩
  obtain ⟨a, cap, rfl, -⟩ := h.helds
  by_cases h1 : n < 1
  · have hE := refE_no (d := d) h1
    rw [hE] at hA
    go_enter Try.func26, Try.ntmps26
    go_wp2_with fail
    refine hA.mono ?_
    clear hA
    rintro e W2 (⟨h0, rfl, k2⟩ | ⟨h0, -⟩)
    · go_wp2_with fail
      refine (hnum _ _).mono ?_
      rintro e w5 ⟨rfl, rfl⟩
      go_wp2_with fail
      go_ret2
      exact HS.out _ k2
    · exact absurd h0 (by decide)
  · have hc : classI n = 0 := by unfold classI; rw [if_neg (by omega)]
    have hE := refE_22 (d := d) (n := n) (by omega) (Or.inl hc)
    rw [hE] at hA
    have h2 : 1048576 < n := by omega
    go_enter Try.func26, Try.ntmps26
    go_wp2_with fail
    refine hA.mono ?_
    clear hA
    rintro e W2 (⟨h0, rfl, k2⟩ | ⟨h0, -⟩)
    · go_wp2_with fail
      refine (hnum _ _).mono ?_
      rintro e w5 ⟨rfl, rfl⟩
      go_wp2_with fail
      go_ret2
      exact HS.out _ k2
    · exact absurd h0 (by decide)

set_option maxRecDepth 100000 in
set_option maxHeartbeats 4000000 in
theorem takes_full (h : OwnK w w1 p vb L ve ys d) (hF : d.Fine) (hW : d.Well) (hB : Book d L) (n : Nat) (u : UInt8) (h1 : 1 ≤ n) (h2 : n ≤ 1048576) (h3 : d.limit < d.used + classN n) :
    Calls Try.prog 26 #[.pointer (some ⟨p, 0, none⟩), vb, .int .i64 (d.limit : Int), .int .i64 (n : Int), .int .u8 (u.toNat : Int)] w1 fun e w' => TakesPost w p d.limit vb L ve ys e w' := by
  have hnum := fun x W => num_any x W
  have hA := own_alloc_any h.own hF hW (n : Int)
  have HS : Hid (∀ W, Keeps w1 W (fun _ => False) → TakesPost w p d.limit vb L ve ys (.returned (.tuple #[vb, .bool true])) W) := fun W k => ⟨vb, L, d, rfl, h.stay k, rfl, hF, hW, hB, Or.inl ⟨rfl, rfl⟩⟩
  obtain ⟨a, cap, rfl, hH⟩ := h.helds
  have hcn : classI (n : Int) = (classN n : Int) := by unfold classI; rw [if_pos (by omega)]; simp
  have hE := refE_22 (d := d) (n := (n : Int)) (by omega) (Or.inr (by rw [hcn]; omega))
  rw [hE] at hA
  have hcl := class_le n (by omega) (by omega)
  have hC := fun W => classOf_any n W h1 h2
  have hu := hB.used hF
  have hsl := hB.sum_le hF
  have hfew := hB.few hF
  have hlm := hF.lim
  have hS := fun W (k : Keeps w1 W (fun _ => False)) => sum_any a cap L W (by omega) (by omega) (hH.keeps k)
  have hgt : (d.limit : Int) - (sumH L : Int) < (classN n : Int) := by omega
  have hlm' : (d.limit : Int) ≤ 2097152 := by omega
  have hsl' : (sumH L : Int) ≤ 2097152 := by omega
  have hcl' : (classN n : Int) ≤ 1048576 := by omega
  have h1' : (1 : Int) ≤ (n : Int) := by omega
  have h2' : (n : Int) ≤ 1048576 := by omega
  clear hH hu hsl hE hcn h3 hcl
  generalize sumH L = sm at *
  generalize classN n = c at *
  go_enter Try.func26, Try.ntmps26
  go_wp2_with fail
  refine hA.mono ?_
  clear hA
  rintro e W2 (⟨h0, rfl, k2⟩ | ⟨h0, -⟩)
  · go_wp2_with fail
    refine (hC _).mono ?_
    rintro e w5 ⟨rfl, rfl⟩
    go_wp2_with fail
    refine (hS _ k2).mono ?_
    rintro e w5 ⟨rfl, k5⟩
    go_wp2_with fail
    refine (hnum _ _).mono ?_
    rintro e w6 ⟨rfl, rfl⟩
    go_wp2_with fail
    go_ret2
    exact HS.out _ (k2.trans k5 (fun _ _ e => e))
  · exact absurd h0 (by decide)

set_option maxRecDepth 100000 in
set_option maxHeartbeats 4000000 in
theorem takes_yes (h : OwnK w w1 p vb L ve ys d) (hF : d.Fine) (hW : d.Well) (hB : Book d L) (n : Nat) (u : UInt8) (h1 : 1 ≤ n) (h2 : n ≤ 1048576) (h3 : d.used + classN n ≤ d.limit) :
    Calls Try.prog 26 #[.pointer (some ⟨p, 0, none⟩), vb, .int .i64 (d.limit : Int), .int .i64 (n : Int), .int .u8 (u.toNat : Int)] w1 fun e w' => TakesPost w p d.limit vb L ve ys e w' := by
  have hnum := fun x W => num_any x W
  have hA := own_alloc h.own hF listOK hW n h1 h2 h3
  have hcl := class_le n (by omega) (by omega)
  have hT := list_B hF hW (class_in n (by omega) (by omega)) h3
  have hC := fun W => classOf_any n W h1 h2
  have hu := hB.used hF
  have hsl := hB.sum_le hF
  have hfew := hB.few hF
  have hlm := hF.lim
  have hlow := hT.low
  have hmo := hT.fine.most
  have hbk := hT.book hB u
  have hap := hB.apart hT.fine _ _ hT.perm
  have hrd := hT.read
  have hal := hT.al
  have hend : (((listT d (classN n)).2).bytes (splice ((listT d (classN n)).2).bs (listT d (classN n)).1 (same (classN n) u))).bs.length = ((listT d (classN n)).2).bs.length := by
    show (splice _ _ _).length = _
    exact splice_length (by unfold same; rw [List.length_replicate]; exact hlow.2)
  have hF2 := hT.fine
  have hbound : ∀ y ∈ L, y.1 + y.2.1 ≤ 140737488355328 := fun y hy => Nat.le_trans (bound_of hF (hB.live hF hy).1) (by omega)
  generalize (listT d (classN n)).1 = off at *
  generalize (listT d (classN n)).2 = d2 at *
  generalize hd3 : d2.bytes (splice d2.bs off (same (classN n) u)) = d3 at *
  obtain ⟨hfl, hF3, hW3, hB3⟩ := hbk
  have hdlen : d2.bs.length ≤ 134217728 := hmo
  have hli : d3.limit = d.limit := by rw [← hd3]; exact hT.limit
  clear hT hd3
  generalize classN n = c at *
  have hx1 : (16 : Int) ≤ (off : Int) := by omega
  have hx2 : ((off : Int)) % 16 = 0 := by omega
  have hx3 : (off : Int) ≤ 134217728 := by omega
  have hx4 : (c : Int) ≤ 1048576 := by omega
  have hx5 : (0 : Int) ≤ (c : Int) := by omega
  have hgt : ¬ (d.limit : Int) - (sumH L : Int) < (c : Int) := by omega
  have hlm' : (d.limit : Int) ≤ 2097152 := by omega
  have hsl' : (sumH L : Int) ≤ 2097152 := by omega
  have h1' : (1 : Int) ≤ (n : Int) := by omega
  have h2' : (n : Int) ≤ 1048576 := by omega
  have hle : ¬ (d2.bs.length : Int) < (off : Int) + (c : Int) := by omega
  have hdl' : (d2.bs.length : Int) ≤ 134217728 := by omega
  have hrep := fun W => repeat_any 0 c W (by omega)
  have hS := fun a cap W (k : HeldsAt W a L) => sum_any a cap L W (by omega) (by omega) k
  have hM := fun a cap W (k : HeldsAt W a L) => meets_any a cap L (off : Int) (c : Int) W (by omega) hbound ⟨by omega, by omega, by omega⟩ k
  rw [hap] at hM
  generalize sumH L = sm at *
  clear hu hsl hap hcl h3 hlow hmo hbound hal hF hW hB
  obtain ⟨a, cap, rfl, hH⟩ := h.helds
  go_enter Try.func26, Try.ntmps26
  go_wp2_with fail
  refine hA.mono ?_
  clear hA
  rintro e W2 ⟨rfl, hT2⟩
  have K2 := h.turned (h.own.turn hT2 h.lt) hT2.2
  obtain ⟨a', cap', hv, hH2⟩ := K2.helds
  cases hv
  clear hH h hT2
  go_wp2_with fail
  refine (hC _).mono ?_
  rintro e w5 ⟨rfl, rfl⟩
  go_wp2_with fail
  refine (hS _ _ _ hH2).mono ?_
  rintro e W3 ⟨rfl, k3⟩
  have K3 := K2.stay k3
  have hH3 := hH2.keeps k3
  clear hH2 K2 k3 hS
  go_wp2_with fail
  refine (hC _).mono ?_
  rintro e w5 ⟨rfl, rfl⟩
  go_wp2_with fail
  refine (hnum _ _).mono ?_
  rintro e w5 ⟨rfl, rfl⟩
  go_wp2_with fail
  refine (hM _ _ _ hH3).mono ?_
  rintro e W4 ⟨rfl, k4⟩
  have K4 := K3.stay k4
  clear hH3 K3 k4 hM
  have hR := own_read K4.own hF2 (off : Int) (c : Int) (fitsI_mk (by omega) (by omega)) (fitsI_mk (by omega) (by omega))
  rw [hrd] at hR
  go_wp2_with fail
  refine hR.mono ?_
  rintro e W5 ⟨rfl, k5⟩
  have K5 := K4.stay k5
  clear K4 k5 hR
  go_wp2_with fail
  refine (hnum _ _).mono ?_
  rintro e w5 ⟨rfl, rfl⟩
  go_wp2_with fail
  refine (hrep _).mono ?_
  rintro e W6 ⟨rfl, k6⟩
  have K6 := K5.stay k6
  clear K5 k6 hrep
  have hFi := own_fill K6.own hF2 (off : Int) (c : Int) u (fitsI_mk (by omega) (by omega)) (fitsI_mk (by omega) (by omega))
  rw [hfl] at hFi
  generalize strOf (same c 0) = S at *
  go_wp2_with fail
  refine hFi.mono ?_
  rintro e W7 ⟨rfl, hT7⟩
  have K7 := K6.turned (K6.own.turn hT7 K6.lt) hT7.2
  clear K6 hT7 hFi
  go_wp2_with fail
  refine (hnum _ _).mono ?_
  rintro e w5 ⟨rfl, rfl⟩
  have hE := lo_end K7.own
  rw [hend] at hE
  go_wp2_with fail
  refine hE.mono ?_
  rintro e w5 ⟨rfl, rfl⟩
  obtain ⟨g, cp, w9, hap, K9⟩ := K7.push (off, c, u.toNat) (by omega)
  have HF : Hid (TakesPost w p d.limit (.slice a L.length cap) L ve ys (.returned (.tuple #[.slice (some ⟨g, 0, none⟩) (L.length + 1) cp, .bool true])) w9) := ⟨_, _, d3, rfl, K9, hli, hF3, hW3, hB3, Or.inr ⟨_, rfl⟩⟩
  clear K7 K9 hE
  go_wp2_with (first | (at_builtin; have _t := hap; refine app_run _ rfl (.tmp 109) (.tmp 114) 58 rfl rfl rfl hap ?_; clear hap))
  go_ret2
  exact HF.out

theorem takes_any (h : OwnK w w1 p vb L ve ys d) (hF : d.Fine) (hW : d.Well) (hB : Book d L) (n : Int) (u : UInt8) :
    Calls Try.prog 26 #[.pointer (some ⟨p, 0, none⟩), vb, .int .i64 (d.limit : Int), .int .i64 n, .int .u8 (u.toNat : Int)] w1 fun e w' => TakesPost w p d.limit vb L ve ys e w' := by
  by_cases h0 : n < 1 ∨ 1048576 < n
  · exact takes_no h hF hW hB n u h0
  · obtain ⟨m, rfl⟩ := Int.eq_ofNat_of_zero_le (show 0 ≤ n by omega)
    by_cases h3 : d.used + classN m ≤ d.limit
    · exact takes_yes h hF hW hB m u (by omega) (by omega) h3
    · exact takes_full h hF hW hB m u (by omega) (by omega) (by omega)
end
end Go.Proofs.Yteglefnfnkgpcaa
/-
  The law's gives.
-/
namespace Go.Proofs.Yteglefnfnkgpcaa
open Go.RowKit Go.Shelf
set_option linter.unusedVariables false

theorem part_get {L : List (Nat × Nat × Nat)} {j m q : Nat} {u : Value} (hjm : j + m ≤ L.length) (h : (cells3 ((L.drop j).take m))[q]? = some u) : (cells3 L)[j * 3 + q]? = some u := by
  have e : cells3 L = cells3 (L.take j) ++ (cells3 ((L.drop j).take m) ++ cells3 ((L.drop j).drop m)) := by
    rw [← cells3_append, ← cells3_append, List.take_append_drop, List.take_append_drop]
  have hl : (cells3 (L.take j)).length = j * 3 := by rw [cells3_length, List.length_take, Nat.min_eq_left (by omega)]
  rw [e, List.getElem?_append_right (by rw [hl]; omega), hl, Nat.add_sub_cancel_left, List.getElem?_append_left (List.getElem?_eq_some_iff.1 h).1]
  exact h
/-- A part of the book behind a row of one's own. -/
theorem append_part {W : World} {B : Nat} {vr : Value} {M L : List (Nat × Nat × Nat)} (hr : W.ownsRow B 62 3 vr M.length (cells3 M)) (hB : B ≤ W.heap.size) {g j m c : Nat} (hjm : j + m ≤ L.length) (hL : L.length ≤ 1000000000) (hM : M.length ≤ 1000000000)
    (hsrc : ∀ q u, (cells3 L)[q]? = some u → W.cell? ⟨g, q, none⟩ = some u) :
    ∃ v' w', (∀ ty, (Builtin.append_ #[58, 58] ty #[vr, .slice (some ⟨g, j * 3, none⟩) m c]).run Try.prog W = .ok v' w') ∧ w'.ownsRow B 62 3 v' (M.length + m) (cells3 (M ++ (L.drop j).take m)) ∧ Keeps W w' (fun k => vr.ownBlock = some k) ∧ (v'.ownBlock = vr.ownBlock ∨ v'.ownBlock = some W.heap.size) := by
  have hi : (Try.prog.info? 62).map (fun i => (i.zero, i.size, i.bytes)) = some (some (.agg #[.int .i64 0, .int .i64 0, .int .u8 0]), 3, 24) := by kernel_rfl
  obtain ⟨i, h1, h2, h3, h4⟩ := info_parts hi
  have hlen : ((L.drop j).take m).length = m := by rw [List.length_take, List.length_drop]; omega
  obtain ⟨v', w', hrun, hown, hgr, -, hloc⟩ := run_append_own_at (P := Try.prog) W B 58 0 62 i (.agg #[.int .i64 0, .int .i64 0, .int .u8 0]) 3 24 Try.underlying58 h1 h2 h3 h4 rfl (by decide) vr M.length (cells3 M) hr ⟨g, j * 3, none⟩ m c (cells3 ((L.drop j).take m)) (by rw [cells3_length, hlen])
    (fun q u hq => by
      rw [addr_add]
      exact hsrc _ _ (part_get hjm hq)) cells3_one' (by simp only [maxLen]; omega) (by omega) hB
  refine ⟨v', w', fun ty => hrun, ?_, Keeps.ofGrown hgr, hloc⟩
  rw [cells3_append]
  exact hown
/-- The book is another row. -/
theorem OwnK.swapB {w w1 w2 : World} {p : Nat} {vb vb' ve : Value} {L L' : List (Nat × Nat × Nat)} {ys : List Int} {d : AD} (h : OwnK w w1 p vb L ve ys d) (k : Keeps w1 w2 (fun _ => False)) (hr : w2.ownsRow w.heap.size 62 3 vb' L'.length (cells3 L')) (hn : ∀ k, vb'.ownBlock = some k → w1.heap.size ≤ k) : OwnK w w2 p vb' L' ve ys d := by
  refine ⟨h.own.swap (k.mono (fun _ _ e => e.elim)) h.base (fun i e => ?_), hr, row_kept h.ever (fun b hb => k.block b (h.lt b (Or.inr hb)) id)⟩
  rcases e with e | e
  · exact Or.inr (hn i e)
  · exact Or.inl (Or.inr e)

def GivesPost (w : World) (p lim : Nat) (ve : Value) (ys : List Int) (e : Ending) (w' : World) : Prop :=
  ∃ vb' L' d', e = .returned (.tuple #[vb', .bool true]) ∧ OwnK w w' p vb' L' ve ys d' ∧ d'.limit = lim ∧ d'.Fine ∧ d'.Well ∧ Book d' L'

section
variable {w w1 : World} {p : Nat} {vb ve : Value} {L : List (Nat × Nat × Nat)} {ys : List Int} {d : AD}

/-- The two parts joined: the book without its i-th. -/
theorem OwnK.without (h : OwnK w w1 p vb L ve ys d) {a : Option Addr} {cap : Nat} (hv : vb = .slice a L.length cap) {i : Nat} (hi : i < L.length) (hL : L.length ≤ 134217728) (c1 c2 : Nat) :
    ∃ g v1 w2, a = some ⟨g, 0, none⟩ ∧ (∀ ty, (Builtin.append_ #[58, 58] ty #[.slice none 0 0, .slice (some ⟨g, 0, none⟩) i c1]).run Try.prog w1 = .ok v1 w2) ∧
      ∃ v2 w3, (∀ ty, (Builtin.append_ #[58, 58] ty #[v1, .slice (if cap = i + 1 then some ⟨g, 0, none⟩ else some ⟨g, (i + 1) * 3, none⟩) (L.length - (i + 1)) c2]).run Try.prog w2 = .ok v2 w3) ∧ OwnK w w3 p v2 (L.eraseIdx i) ve ys d := by
  have hsz := h.own.keeps.size
  rcases h.book.2 with ⟨e, e0⟩ | ⟨g, cap', cur, e, hb, hg, hlc, _⟩
  · omega
  rw [e] at hv
  cases hv
  have hsrc : ∀ q u, (cells3 L)[q]? = some u → w1.cell? ⟨g, q, none⟩ = some u := fun q u hq => by
    have := h.book.cells (g := g) (by rw [e]; rfl) _ _ hq
    rw [addr_add, Nat.zero_add] at this
    exact this
  have hnil : w1.ownsRow w.heap.size 62 3 (.slice none 0 0) ([] : List (Nat × Nat × Nat)).length (cells3 []) := ⟨rfl, Or.inl ⟨rfl, rfl⟩⟩
  obtain ⟨v1, w2, hr1, ho1, k1, hl1⟩ := append_part hnil hsz (g := g) (j := 0) (m := i) (c := c1) (by omega) (by omega) (by simp) hsrc
  have k1' : Keeps w1 w2 (fun _ => False) := k1.mono (fun _ _ e => by cases e)
  have hsrc2 : ∀ q u, (cells3 L)[q]? = some u → w2.cell? ⟨g, q, none⟩ = some u := fun q u hq => k1'.cellK (hsrc q u hq)
  have e1 : [] ++ (L.drop 0).take i = L.take i := by simp
  rw [e1] at ho1
  have hti : (L.take i).length = i := by rw [List.length_take]; omega
  have ho1' : w2.ownsRow w.heap.size 62 3 v1 (L.take i).length (cells3 (L.take i)) := by
    rw [hti]
    simpa using ho1
  have hx : ∃ v2 w3, (∀ ty, (Builtin.append_ #[58, 58] ty #[v1, .slice (if cap = i + 1 then some ⟨g, 0, none⟩ else some ⟨g, (i + 1) * 3, none⟩) (L.length - (i + 1)) c2]).run Try.prog w2 = .ok v2 w3) ∧ w3.ownsRow w.heap.size 62 3 v2 (i + (L.length - (i + 1))) (cells3 (L.eraseIdx i)) ∧ Keeps w2 w3 (fun k => v1.ownBlock = some k) ∧ (v2.ownBlock = v1.ownBlock ∨ v2.ownBlock = some w2.heap.size) := by
    by_cases hcap : cap = i + 1
    · rw [if_pos hcap]
      have hz : L.length - (i + 1) = 0 := by omega
      rw [hz]
      obtain ⟨v2, w3, hr2, ho2, k2, hl2⟩ := append_part ho1' (Nat.le_trans hsz k1'.size) (g := g) (j := 0) (m := 0) (c := c2) (by omega) (by omega) (by omega) hsrc2
      refine ⟨v2, w3, fun ty => by simpa using hr2 ty, ?_, k2, hl2⟩
      have e2 : L.take i ++ (L.drop 0).take 0 = L.eraseIdx i := by
        have hd : L.drop (i + 1) = [] := List.drop_eq_nil_of_le (by omega)
        rw [List.eraseIdx_eq_take_drop_succ, hd]
        simp
      rw [e2, hti] at ho2
      exact ho2
    · rw [if_neg hcap]
      obtain ⟨v2, w3, hr2, ho2, k2, hl2⟩ := append_part ho1' (Nat.le_trans hsz k1'.size) (g := g) (j := i + 1) (m := L.length - (i + 1)) (c := c2) (by omega) (by omega) (by omega) hsrc2
      refine ⟨v2, w3, hr2, ?_, k2, hl2⟩
      have e2 : L.take i ++ (L.drop (i + 1)).take (L.length - (i + 1)) = L.eraseIdx i := by
        rw [List.take_of_length_le (l := L.drop (i + 1)) (by rw [List.length_drop]; omega), List.eraseIdx_eq_take_drop_succ]
      rw [e2, hti] at ho2
      exact ho2
  obtain ⟨v2, w3, hr2, ho2, k2, hl2⟩ := hx
  have hn1 : ∀ k, v1.ownBlock = some k → w1.heap.size ≤ k := fun k hk => by
    rcases hl1 with q | q
    · rw [q] at hk
      cases hk
    · rw [q] at hk
      cases hk
      exact Nat.le_refl _
  have hn2 : ∀ k, v2.ownBlock = some k → w1.heap.size ≤ k := fun k hk => by
    rcases hl2 with q | q
    · rw [q] at hk
      exact hn1 k hk
    · rw [q] at hk
      cases hk
      exact k1'.size
  have k3 : Keeps w1 w3 (fun _ => False) := k1'.trans k2 (fun i hi e => by have := hn1 i e; omega)
  refine ⟨g, v1, w2, rfl, fun ty => by simpa using hr1 ty, v2, w3, hr2, h.swapB k3 ?_ hn2⟩
  rw [List.length_eraseIdx_of_lt hi]
  rw [show i + (L.length - (i + 1)) = L.length - 1 by omega] at ho2
  exact ho2

theorem Book.lv_none {off : Int} (hB : Book d L) (hF : d.Fine) (h : d.lv off = Option.none) : ∀ y ∈ L, (y.1 : Int) ≠ off := fun y hy e => by
  have := hB.lv hF hy
  rw [e, h] at this
  cases this
theorem Book.lv_some {off s : Int} (hB : Book d L) (hF : d.Fine) (h : d.lv off = some s) : ∃ i, ∃ hi : i < L.length, (L[i].1 : Int) = off ∧ ∀ j (hj : j < L.length), j < i → (L[j].1 : Int) ≠ off := by
  obtain ⟨o, n, rfl, rfl, hm⟩ := hF.live _ _ h
  obtain ⟨i, hi, e1, e2⟩ := hB.found (x := (o, n)) (List.mem_filter.2 ⟨hm, by rw [h]; rfl⟩)
  refine ⟨i, hi, by rw [e1], fun j hj hji e => ?_⟩
  have hn := hB.nodup hF
  have hlt := List.pairwise_iff_getElem.1 hn j i (by simpa using hj) (by simpa using hi) hji
  simp only [List.getElem_map] at hlt
  exact hlt (by rw [e1]; omega)

theorem own_size {X : Nat → Prop} (h : Own w w1 p X d) (off : Int) (ho : fitsI off) : Calls Try.prog 18 #[.pointer (some ⟨p, 0, none⟩), .int .i64 off] w1 fun e w' => e = .returned (.tuple #[.int .i64 ((d.lv off).getD 0), .int .i64 (if (d.lv off).isSome then 0 else 23)]) ∧ w' = w1 := by
  obtain ⟨c, hc, _⟩ := h.arena
  exact size_any hc off ho

set_option maxRecDepth 100000 in
set_option maxHeartbeats 4000000 in
theorem gives_any (h : OwnK w w1 p vb L ve ys d) (hF : d.Fine) (hW : d.Well) (hB : Book d L) (off : Int) (ho : fitsI off) :
    Calls Try.prog 27 #[.pointer (some ⟨p, 0, none⟩), vb, .int .i64 off] w1 fun e w' => GivesPost w p d.limit ve ys e w' := by
  have hnum := fun x W => num_any x W
  have hFr := own_free_any h.own hF off ho h.lt
  have hfew := hB.few hF
  obtain ⟨a, cap, rfl, -⟩ := h.helds
  go_enter Try.func27, Try.ntmps27
  go_wp2_with fail
  refine hFr.mono ?_
  clear hFr
  rintro e W2 (⟨s, d', hl, rfl, hg, hown, hk⟩ | ⟨hl, rfl, hown, hk⟩)
  · have K2 := h.turned hown hk
    obtain ⟨i0, hi0, hoff, hfirst⟩ := hB.lv_some hF hl
    have hz : Hid (d'.lv off = none) := show d'.lv off = none by rw [hg.lv, upd_same]
    have HB : Hid (d'.limit = d.limit ∧ d'.Fine ∧ d'.Well ∧ Book d' (L.eraseIdx i0)) := by
      show d'.limit = d.limit ∧ d'.Fine ∧ d'.Well ∧ Book d' (L.eraseIdx i0)
      obtain ⟨s', hs', rfl⟩ := id hg
      refine ⟨rfl, hF.gone hg, hW.gone hF hg, ?_⟩
      rw [← hoff]
      exact hB.gone hF i0 s' hi0
    clear h hown hk hB hF hW hg hl
    obtain ⟨a', cap', hv, hH2⟩ := K2.helds
    cases hv
    have hLc : L.length ≤ cap := by
      rcases K2.book.2 with ⟨e, e0⟩ | ⟨g, cap', cur, e, _, _, e1, _⟩
      · omega
      · cases e
        exact e1
    have HW : Hid (∀ V, Keeps W2 V (fun _ => False) → ∀ i (hi : i < L.length), _) := fun V k i hi => (K2.stay k).without rfl hi hfew cap (cap - (i + 1))
    go_wp2_with fail
    go_loopg [20] L.length (fun g s20 wr => ∃ i : Nat, g = L.length - i ∧ i ≤ i0 ∧ s20 = .int .i64 (i : Int) ∧ Keeps W2 wr (fun _ => False))
    case atStart => exact ⟨0, rfl, Nat.zero_le _, rfl, Keeps.refl _ _⟩
    case round =>
      obtain ⟨i, rfl, hi, rfl, kr⟩ := hrel
      rcases hH2 with rfl | ⟨b1, o1, rfl, hc⟩
      · simp at hi0
      obtain ⟨x1, x2, x3⟩ := hc i (by omega)
      replace x1 := kr.cellK x1
      replace x2 := kr.cellK x2
      replace x3 := kr.cellK x3
      have hlt' : (i : Int) < (L.length : Int) := by omega
      by_cases hii : i = i0
      · subst hii
        have hoff' : (((L[i].1 : Nat) : Int) == off) = true := beq_iff_eq.2 hoff
        clear hc hoff hfirst
        generalize L[i].1 = y1 at *
        generalize L[i].2.1 = y2 at *
        generalize L[i].2.2 = y3 at *
        obtain ⟨g, v1, w5, hge, hr1, v2, w6, hr2, K6⟩ := HW.out (wr.alloc (.cells #[.int .i64 (y1 : Int), .int .i64 (y2 : Int), .int .u8 (y3 : Int)] 62)) (kr.alloc _) i hi0
        cases hge
        rw [Nat.zero_add] at x1 x2 x3
        have hSz := own_size K6.own off ho
        rw [hz.out] at hSz
        have HF : Hid (GivesPost w p d.limit ve ys (.returned (.tuple #[v2, .bool true])) w6) := ⟨v2, _, d', rfl, K6, HB.out⟩
        have hic : i ≤ cap := by omega
        have hic1 : i + 1 ≤ cap := by omega
        have hil : i + 1 ≤ L.length := by omega
        clear K2 K6 HW HB
        go_wp2_with (first | (at_builtin; first | (have _t := hr1; refine app_run _ rfl (.tmp 29) (.tmp 32) 58 rfl rfl rfl hr1 ?_; clear hr1) | (have _t := hr2; refine app_run _ rfl (.tmp 34) (.tmp 38) 58 rfl rfl rfl hr2 ?_; clear hr2)))
        all_goals
          refine hSz.mono ?_
          rintro e w7 ⟨rfl, rfl⟩
          go_wp2_with fail
          refine (hnum _ _).mono ?_
          rintro e w7 ⟨rfl, rfl⟩
          go_wp2_with fail
          refine (hnum _ _).mono ?_
          rintro e w7 ⟨rfl, rfl⟩
          go_wp2_with fail
          go_ret2
          exact HF.out
      · have hne := hfirst i (by omega) (by omega)
        have hoff' : (((L[i].1 : Nat) : Int) == off) = false := beq_eq_false_iff_ne.2 hne
        clear hc hoff hfirst hne K2
        generalize L[i].1 = y1 at *
        generalize L[i].2.1 = y2 at *
        generalize L[i].2.2 = y3 at *
        go_wp2_with fail
        go_roundg (L.length - (i + 1))
        case measure => omega
        case rel => exact ⟨i + 1, rfl, by omega, by simp, kr.alloc _⟩
  · have K2 := h.stay hk
    have hno := hB.lv_none hF hl
    have HS : Hid (∀ W, Keeps W2 W (fun _ => False) → GivesPost w p d.limit ve ys (.returned (.tuple #[.slice a L.length cap, .bool true])) W) := fun W k => ⟨_, L, d, rfl, K2.stay k, rfl, hF, hW, hB⟩
    obtain ⟨a', cap', hv, hH2⟩ := K2.helds
    cases hv
    clear h hown hk hB hF hW hl K2
    go_wp2_with fail
    go_loopg [20] L.length (fun g s20 wr => ∃ i : Nat, g = L.length - i ∧ i ≤ L.length ∧ s20 = .int .i64 (i : Int) ∧ Keeps W2 wr (fun _ => False))
    case atStart => exact ⟨0, rfl, Nat.zero_le _, rfl, Keeps.refl _ _⟩
    case round =>
      obtain ⟨i, rfl, hi, rfl, kr⟩ := hrel
      by_cases hlt : i < L.length
      · rcases hH2 with rfl | ⟨b1, o1, rfl, hc⟩
        · simp at hlt
        obtain ⟨x1, x2, x3⟩ := hc i hlt
        replace x1 := kr.cellK x1
        replace x2 := kr.cellK x2
        replace x3 := kr.cellK x3
        have hlt' : (i : Int) < (L.length : Int) := by omega
        have hoff' : (((L[i].1 : Nat) : Int) == off) = false := beq_eq_false_iff_ne.2 (hno _ (List.getElem_mem hlt))
        clear hc hno
        generalize L[i].1 = y1 at *
        generalize L[i].2.1 = y2 at *
        generalize L[i].2.2 = y3 at *
        go_wp2_with fail
        go_roundg (L.length - (i + 1))
        case measure => omega
        case rel => exact ⟨i + 1, rfl, by omega, by simp, kr.alloc _⟩
      · obtain rfl : i = L.length := by omega
        have hlt' : ¬ (L.length : Int) < (L.length : Int) := by omega
        clear hno hH2
        go_wp2_with fail
        refine (hnum _ _).mono ?_
        rintro e w5 ⟨rfl, rfl⟩
        go_wp2_with fail
        go_ret2
        exact HS.out _ kr
end
end Go.Proofs.Yteglefnfnkgpcaa
/-
  What came in for the statements of stage 2: a row of steps.
-/
namespace Go.Proofs.Yteglefnfnkgpcaa
open Go.ChangeShapes Go.WideShapes Go.ChangeAt Go.WideMaps Go.WideElems Go.RowKit
set_option linter.unusedVariables false

theorem add_lit (b o i : Nat) : (⟨b, o, none⟩ : Addr).add i = ⟨b, o + i, none⟩ := by simp [Addr.add]
theorem plain_of_cell {w : World} {a : Addr} {v : Value} (h : w.cell? (a.add 0) = some v) : ∃ bb oo, a = ⟨bb, oo, none⟩ ∧ bb < w.heap.size := by
  obtain ⟨bb, oo, sp⟩ := a
  have h' : w.cell? ⟨bb, oo, sp⟩ = some v := h
  have hlt : bb < w.heap.size := by
    rcases Nat.lt_or_ge bb w.heap.size with h1 | h1
    · exact h1
    · simp [World.cell?, Array.getElem?_eq_none h1] at h'
  cases sp with
  | none => exact ⟨bb, oo, rfl, hlt⟩
  | some s =>
    exfalso
    unfold World.cell? at h'
    split at h' <;> simp at h'
/-- A row of the law's steps. -/
def StepsIn (w : World) (a : Option Addr) (ss : List (Int × Int)) : Prop := ss = [] ∨ ∃ b o, a = some ⟨b, o, none⟩ ∧ b < w.heap.size ∧ ∀ i (h : i < ss.length), w.cell? ⟨b, o + i * 2, none⟩ = some (.int .i64 ss[i].1) ∧ w.cell? ⟨b, o + i * 2 + 1, none⟩ = some (.int .i64 ss[i].2)

set_option maxRecDepth 100000 in
theorem open_steps {H : Type} {enc : TypeId × Value → H} {w : World} {held : Bool} {n : Nat} {cs : List Value} {y : DataW H × List MemPlace} (hf : DataW.trod enc Try.prog w 0 (fun _ => true) held n 22 cs = some y) (hw : ∀ n ∈ y.1.weights Try.prog 22, n ≤ reachBytes) :
    ∃ (a : Option Addr) (cap : Nat) (ss : List (Int × Int)), cs = [.slice a ss.length cap] ∧ StepsIn w a ss ∧ ss.length ≤ 8796093022208 ∧ ∀ x ∈ ss, fitsI x.1 ∧ fitsI x.2 := by
  rcases Go.Deep.open_slice Try.underlying22 hf with ⟨hcs, hx⟩ | ⟨ad, len, cap, m, n', D, Pl, hcs, _, hl, hm, hmm, hx, hc⟩
  · exact ⟨none, 0, [], hcs, Or.inl rfl, by simp, fun x hx => by cases hx⟩
  · subst hx
    have ce : Try.prog.cellsOf 30 = 2 := by kernel_rfl
    have hmc : m = cap := by simpa using hmm
    have h47 : reachBytes = 140737488351232 := by decide
    have hby : Try.prog.bytesOf 30 = 16 := by kernel_rfl
    have hlw : len * 16 ≤ reachBytes := by
      have := hw (((List.map D (List.range len)).length + (List.map D ((List.range m).drop len)).length) * Try.prog.bytesOf 30) (by simp [DataW.weights, Try.underlying22])
      rw [hby, List.length_map, List.length_range] at this
      exact Nat.le_trans (Nat.mul_le_mul_right 16 (Nat.le_add_right len _)) this
    obtain ⟨f, hf⟩ := Go.Deep.choose_lt (α := Int × Int) (n := len) (p := fun i q => w.cell? (ad.add (i * 2)) = some (.int .i64 q.1) ∧ w.cell? (ad.add (i * 2 + 1)) = some (.int .i64 q.2) ∧ fitsI q.1 ∧ fitsI q.2) (fun i hi => by
      obtain ⟨cs', h1, h2⟩ := hc i (by omega)
      rw [ce] at h1
      obtain ⟨_, hlen, hcell⟩ := World.cells?_some h1
      obtain ⟨xs, k, hk, hxy, _, hxl, hf⟩ := DataW.trod_struct Try.underlying30 h2
      match xs, hxl, cs', hlen with
      | [y0, y1], _, [v0, v1], _ =>
        have g0 := hf 0 _ rfl
        have g1 := hf 1 _ rfl
        have z3 : Try.prog.cellsOf 3 = 1 := by kernel_rfl
        simp [z3] at g0 g1
        have e0 := hcell 0 (by omega)
        have e1 := hcell 1 (by omega)
        rw [Go.Deep.add_add] at e0 e1
        obtain ⟨X0, u0, _, q0⟩ := DataW.trod_int Try.underlying3 g0
        obtain ⟨X1, u1, _, q1⟩ := DataW.trod_int Try.underlying3 g1
        simp only [List.cons.injEq, and_true] at u0 u1
        subst u0 u1
        exact ⟨(X0, X1), by simpa using e0, by simpa using e1, q0, q1⟩)
    have hlen : ((List.range len).map f).length = len := by simp
    refine ⟨some ad, cap, (List.range len).map f, by rw [hlen]; exact hcs, ?_, by rw [hlen]; omega, fun x hx => ?_⟩
    · by_cases hz : len = 0
      · left
        subst hz
        rfl
      · right
        obtain ⟨b, o, rfl, hb⟩ := plain_of_cell (a := ad) (v := .int .i64 (f 0).1) (by have := (hf 0 (by omega)).1; simpa using this)
        refine ⟨b, o, rfl, hb, fun j hj => ?_⟩
        have hj' : j < len := by rw [hlen] at hj; exact hj
        have e : ((List.range len).map f)[j] = f j := by simp
        rw [e]
        obtain ⟨c0, c1, ok⟩ := hf j hj'
        rw [add_lit] at c0 c1
        exact ⟨c0, by rw [Nat.add_assoc]; exact c1⟩
    · obtain ⟨i, hi, rfl⟩ := List.mem_map.1 hx
      exact (hf i (List.mem_range.1 hi)).2.2
end Go.Proofs.Yteglefnfnkgpcaa
/-
  Parts and AllocAll beside blocks that stand; what only grows.
-/
namespace Go.Proofs.Yteglefnfnkgpcaa
open Go.RowKit Go.Shelf
set_option linter.unusedVariables false

/-- What stands behind it: the old blocks first. -/
structure Grow (d d' : AD) : Prop where
  fine : d'.Fine
  well : d'.Well
  pre : d.L <+: d'.L
theorem Grow.trans {a b c : AD} (h : Grow a b) (k : Grow b c) : Grow a c := ⟨k.fine, k.well, h.pre.trans k.pre⟩
theorem Grow.refl {d : AD} (hF : d.Fine) (hW : d.Well) : Grow d d := ⟨hF, hW, List.prefix_refl _⟩
theorem list_grow {d : AD} (hF : d.Fine) (hW : d.Well) {c : Nat} (hc : c ∈ classList) (h3 : d.used + c ≤ d.limit) : Grow d (listT d c).2 := by
  have hB := list_B hF hW hc h3
  refine ⟨hB.fine, hB.well, ?_⟩
  unfold listT
  cases hf : d.fm (c : Int) with
  | none => exact ⟨_, rfl⟩
  | some xs =>
    cases xs with
    | nil => exact ⟨_, rfl⟩
    | cons z r => exact List.prefix_refl _
theorem fill_grow {d0 d : AD} (h : Grow d0 d) (off n : Int) (u : UInt8) (hn : 0 ≤ n) : Grow d0 (fillR d off n u).2 := by
  unfold fillR
  split
  · rename_i hg
    obtain ⟨o, k, rfl, rfl, h1, h2⟩ := h.fine.span hg
    exact ⟨h.fine.bytes (splice_length (by unfold same; rw [List.length_replicate]; simpa using h2)), ⟨h.well.rises, h.well.sizes, h.well.most⟩, h.pre⟩
  · exact h
theorem ActD.grow {d d' : AD} {N Fr z : Int} {u : UInt8} {ys : List Int} (h : ActD d N Fr u ys d' z) (hF : d.Fine) (hW : d.Well) : Grow d d' ∧ fitsI z := by
  unfold ActD at h
  split at h
  · rcases h with ⟨h0, rfl, rfl⟩ | ⟨h0, rfl, rfl⟩
    · refine ⟨Grow.refl hF hW, ?_⟩
      have : refE d' [N] = 0 ∨ refE d' [N] = 21 ∨ refE d' [N] = 22 := by
        unfold refE
        by_cases q1 : allOne [N]
        · rw [if_pos q1]
          by_cases q2 : fitsIn ((d'.limit : Int) - (d'.used : Int)) [N] = true
          · rw [if_pos q2]; exact Or.inl rfl
          · rw [if_neg q2]; exact Or.inr (Or.inr rfl)
        · rw [if_neg q1]; exact Or.inr (Or.inl rfl)
      rcases this with e | e | e <;> rw [e] <;> exact fitsI_mk (by omega) (by omega)
    · obtain ⟨a1, a2, a3⟩ := refE_yes h0
      obtain ⟨m, rfl⟩ := Int.eq_ofNat_of_zero_le (show 0 ≤ N by omega)
      have hcn : classI (m : Int) = (classN m : Int) := by unfold classI; rw [if_pos (by omega)]; simp
      have hc := class_in m (by omega) (by omega)
      have hg := list_grow hF hW hc (by omega)
      have hB := (list_B hF hW hc (by omega)).low
      have := hg.fine.most
      rw [Int.toNat_natCast]
      exact ⟨fill_grow hg _ _ _ (by omega), fitsI_mk (by omega) (by omega)⟩
  · rcases h with ⟨_, rfl, rfl⟩ | ⟨s, _, rfl, hg⟩
    · exact ⟨Grow.refl hF hW, fitsI_mk (by omega) (by omega)⟩
    · refine ⟨⟨hF.gone hg, hW.gone hF hg, ?_⟩, fitsI_mk (by omega) (by omega)⟩
      obtain ⟨s', _, rfl⟩ := hg
      exact List.prefix_refl _
theorem all_grow : ∀ {zs : List Int} {d : AD}, d.Fine → d.Well → allOne zs → fitsIn ((d.limit : Int) - (d.used : Int)) zs = true → Grow d (takeAll listT d zs).2
  | [], d, hF, hW, _, _ => Grow.refl hF hW
  | z :: r, d, hF, hW, ha, hf => by
    have hz : 1 ≤ z := ha z (List.mem_cons_self ..)
    unfold fitsIn at hf
    split at hf
    · cases hf
    · rename_i hc
      have h0 : classI z ≠ 0 := fun e => hc (Or.inl e)
      have hb : z ≤ 1048576 := Int.not_lt.1 fun hb => h0 (by unfold classI; rw [if_neg (by omega)])
      obtain ⟨m, rfl⟩ := Int.eq_ofNat_of_zero_le (show 0 ≤ z by omega)
      have hcn : classI (m : Int) = (classN m : Int) := by unfold classI; rw [if_pos (by omega)]; simp
      have hle : ¬ (d.limit : Int) - (d.used : Int) < classI (m : Int) := fun e => hc (Or.inr e)
      have hB := list_B hF hW (class_in m (by omega) (by omega)) (by omega)
      have hg := list_grow hF hW (class_in m (by omega) (by omega)) (by omega)
      have e : takeAll listT d ((m : Int) :: r) = (((listT d (classN m)).1 : Int) :: (takeAll listT (listT d (classN m)).2 r).1, (takeAll listT (listT d (classN m)).2 r).2) := by
        simp [takeAll, hcn]
      rw [e]
      refine hg.trans (all_grow hg.fine hg.well (fun y hy => ha y (List.mem_cons_of_mem _ hy)) ?_)
      rw [hB.limit, hB.used]
      rw [hcn] at hf
      rw [show (d.limit : Int) - ((d.used + classN m : Nat) : Int) = (d.limit : Int) - (d.used : Int) - (classN m : Int) by omega]
      exact hf

def partC (L : List (Nat × Nat)) (lv : Int → Option Int) : List Value := (L.map (fun x => [Value.int .i64 (x.1 : Int), .int .i64 (x.2 : Int), .bool (lv (x.1 : Int)).isSome])).flatten
theorem partC_cons (x : Nat × Nat) (L : List (Nat × Nat)) (lv : Int → Option Int) : partC (x :: L) lv = [.int .i64 (x.1 : Int), .int .i64 (x.2 : Int), .bool (lv (x.1 : Int)).isSome] ++ partC L lv := by simp [partC]
theorem partC_length (L : List (Nat × Nat)) (lv : Int → Option Int) : (partC L lv).length = L.length * 3 := by
  induction L with
  | nil => rfl
  | cons x r ih =>
    rw [partC_cons, List.length_append, ih]
    simp
    omega
theorem partC_get : ∀ (L : List (Nat × Nat)) (lv : Int → Option Int) (i : Nat) (h : i < L.length), (partC L lv)[i * 3]? = some (.int .i64 (L[i].1 : Int)) ∧ (partC L lv)[i * 3 + 1]? = some (.int .i64 (L[i].2 : Int)) ∧ (partC L lv)[i * 3 + 2]? = some (.bool (lv (L[i].1 : Int)).isSome)
  | [], _, i, h => by simp at h
  | y :: r, lv, 0, h => by simp [partC]
  | y :: r, lv, i + 1, h => by
    have ih := partC_get r lv i (by simpa using h)
    have e1 : (i + 1) * 3 = 3 + i * 3 := by omega
    rw [partC_cons, e1]
    refine ⟨?_, ?_, ?_⟩
    · rw [List.getElem?_append_right (by simp)]
      simpa using ih.1
    · rw [List.getElem?_append_right (by simp; omega)]
      have : 3 + i * 3 + 1 - 3 = i * 3 + 1 := by omega
      simpa [this] using ih.2.1
    · rw [List.getElem?_append_right (by simp; omega)]
      have : 3 + i * 3 + 2 - 3 = i * 3 + 2 := by omega
      simpa [this] using ih.2.2
theorem PartRow.whole {w : World} {q : Nat} {L : List (Nat × Nat)} {lv : Int → Option Int} {cs : Array Value} (h : PartRow w q L.length L.length L lv cs) : w.heap[q]? = some (.cells (partC L lv).toArray 38) := by
  rw [h.hq]
  congr 2
  apply Array.ext'
  apply List.ext_getElem?
  intro j
  have hsz : cs.toList.length = L.length * 3 := by rw [Array.length_toList]; exact h.size
  by_cases hj : j < L.length * 3
  · obtain ⟨i, r, hr, rfl⟩ : ∃ i r, r < 3 ∧ j = i * 3 + r := ⟨j / 3, j % 3, by omega, by omega⟩
    have hi : i < L.length := by omega
    obtain ⟨d0, d1, d2⟩ := h.done i hi hi
    obtain ⟨p0, p1, p2⟩ := partC_get L lv i hi
    rw [Array.getElem?_toList]
    match r, hr with
    | 0, _ => exact d0.trans p0.symm
    | 1, _ => exact d1.trans p1.symm
    | 2, _ => exact d2.trans p2.symm
  · rw [List.getElem?_eq_none (by omega), List.getElem?_eq_none (by rw [List.toList_toArray, partC_length]; omega)]

section
variable {w W W' : World} {p : Nat} {Z : Nat → Prop} {v : Value} {ys : List Int} {d d' : AD}
/-- A new block is the statement's own. -/
theorem OwnZ.add (h : OwnZ w W p Z v ys d) (k : Keeps W W' (fun _ => False)) (N : Nat → Prop) (hN : ∀ q, N q → W.heap.size ≤ q ∧ q < W'.heap.size) : OwnZ w W' p (fun k => Z k ∨ N k) v ys d := by
  have hsz := h.own.keeps.size
  refine ⟨?_, row_kept h.row (fun b hb => k.block b (h.lt b (Or.inr hb)) id), fun i hi => ?_⟩
  · have h1 : Arena W p (fun k => w.heap.size ≤ k ∧ ¬ ((Z k ∨ N k) ∨ v.ownBlock = some k)) d := h.own.arena.mono (fun i hi e => ⟨e.1, fun x => by
      rcases x with (x | x) | x
      · exact e.2 (Or.inl x)
      · have := (hN i x).1
        omega
      · exact e.2 (Or.inr x)⟩)
    exact ⟨h1.keeps k (fun _ _ _ e => e), h.own.keeps.trans k (fun _ _ e => e)⟩
  · rcases hi with hi | hi
    · exact ⟨(h.zs i hi).1, Nat.lt_of_lt_of_le (h.zs i hi).2.1 k.size, (h.zs i hi).2.2⟩
    · exact ⟨by have := (hN i hi).1; omega, (hN i hi).2, fun e => by have := (h.row.lt i e).2; have := (hN i hi).1; omega⟩
theorem lives_len {d : AD} (hF : d.Fine) : d.L.length ≤ 134217728 := by
  have h1 := tiles_length hF.tiles
  have h2 := hF.most
  omega
theorem ownz_parts (h : OwnZ w W p Z v ys d) (hF : d.Fine) : Calls Try.prog 11 #[.pointer (some ⟨p, 0, none⟩)] W fun e w' =>
    ∃ q, e = .returned (.slice (some ⟨q, 0, none⟩) d.L.length d.L.length) ∧ W.heap.size ≤ q ∧ w'.heap[q]? = some (.cells (partC d.L d.lv).toArray 38) ∧ OwnZ w w' p (fun k => Z k ∨ k = q) v ys d ∧ Keeps W w' (fun _ => False) := by
  obtain ⟨c, hc, _⟩ := h.own.arena
  refine (parts_any hc hF (lives_len hF)).mono ?_
  rintro e w' ⟨q, cs, rfl, h1, h2, h3, h4⟩
  exact ⟨q, rfl, h1, h3.whole, h.add h4 (fun k => k = q) (fun _ e => by subst e; exact ⟨h1, h2⟩), h4⟩
theorem ownz_all (h : OwnZ w W p Z v ys d) (hF : d.Fine) (hW : d.Well) (zs : List Int) (hz0 : 0 < zs.length) (hz1 : zs.length ≤ 1000) (ha : allOne zs) :
    Calls Try.prog 12 #[.pointer (some ⟨p, 0, none⟩), .slice (some ⟨W.heap.size, 0, none⟩) zs.length zs.length] (W.alloc (.cells (zs.map cellI).toArray 3)) fun e w' =>
      (refE d zs ≠ 0 ∧ e = .returned (.tuple #[.slice none 0 0, .int .i64 (refE d zs)]) ∧ OwnZ w w' p Z v ys d ∧ Keeps W w' (fun _ => False)) ∨
      (∃ b, fitsIn ((d.limit : Int) - (d.used : Int)) zs = true ∧ e = .returned (.tuple #[.slice (some ⟨b, 0, none⟩) zs.length zs.length, .int .i64 0]) ∧ W.heap.size ≤ b ∧ w'.heap[b]? = some (.cells ((takeAll listT d zs).1.map cellI).toArray 3) ∧ OwnZ w w' p (fun k => Z k ∨ k = b) v ys (takeAll listT d zs).2 ∧ ∀ k, Z k → w'.heap[k]? = W.heap[k]?) := by
  have k0 : Keeps W (W.alloc (.cells (zs.map cellI).toArray 3)) (fun _ => False) := (Keeps.refl _ _).alloc _
  have hcell : ∀ j (hj : j < zs.length), (W.alloc (.cells (zs.map cellI).toArray 3)).cell? ⟨W.heap.size, 0 + j, none⟩ = some (.int .i64 zs[j]) := fun j hj => by
    simp only [World.cell?, heap_alloc_new]
    simp [hj, cellI]
  by_cases h0 : refE d zs = 0
  · have hf : fitsIn ((d.limit : Int) - (d.used : Int)) zs = true := by
      unfold refE at h0
      rw [if_pos ha] at h0
      cases hq : fitsIn ((d.limit : Int) - (d.used : Int)) zs with
      | true => rfl
      | false => rw [hq] at h0; simp at h0
    have hA := allocAll_some listOK (h.own.here.keeps k0 (fun _ _ _ e => e)) hW hF W.heap.size 0 zs.length zs hcell (fun e => by have := e.2; omega) (by simp) hz0 ha hf
    refine hA.mono ?_
    rintro e w' ⟨b, hb, rfl, hblk, har, hk⟩
    have hlen := takeAll_length listT zs d
    rw [hlen]
    have hb' : W.heap.size ≤ b := Nat.le_trans k0.size hb
    have K : Keeps W w' (fun k => (w.heap.size ≤ k ∧ ¬ (Z k ∨ v.ownBlock = some k)) ∧ k < W.heap.size) := (k0.mono (fun _ _ e => e.elim)).trans hk (fun _ _ e => e)
    have hst : ∀ k, Z k → w'.heap[k]? = W.heap[k]? := fun k hk => K.block k (h.zs k hk).2.1 (fun e => e.1.2 (Or.inl hk))
    have hsz := h.own.keeps.size
    refine Or.inr ⟨b, hf, rfl, hb', hblk, ⟨⟨har.mono (fun i hi e => ⟨?_, ?_⟩), h.own.keeps.trans K (fun i hi e => by have := e.1.1; omega)⟩, row_kept h.row (fun g hg => K.block g (h.lt g (Or.inr hg)) (fun e => e.1.2 (Or.inr hg))), fun k hk => ?_⟩, hst⟩
    · rcases e.1 with e | e
      · exact e.1.1
      · have := k0.size
        omega
    · rintro ((x | x) | x)
      · rcases e.1 with e1 | e1
        · exact e1.1.2 (Or.inl x)
        · have := (h.zs i x).2.1
          have := k0.size
          omega
      · exact e.2 x
      · rcases e.1 with e1 | e1
        · exact e1.1.2 (Or.inr x)
        · have := (h.row.lt i x).2
          have := k0.size
          omega
    · rcases hk with hk | rfl
      · exact ⟨(h.zs k hk).1, Nat.lt_of_lt_of_le (h.zs k hk).2.1 K.size, (h.zs k hk).2.2⟩
      · exact ⟨by omega, heap_lt hblk, fun e => by have := (h.row.lt _ e).2; omega⟩
  · have hA := allocAll_no (h.own.here.keeps k0 (fun _ _ _ e => e)) hF (some ⟨W.heap.size, 0, none⟩) zs.length zs (by omega) (fun j hj => ⟨W.heap.size, 0, rfl, hcell j hj⟩) _ rfl h0
    refine hA.mono ?_
    rintro e w' ⟨rfl, hk⟩
    have K := k0.trans hk (fun _ _ e => e)
    exact Or.inl ⟨h0, rfl, h.stay K, K⟩
end
end Go.Proofs.Yteglefnfnkgpcaa
