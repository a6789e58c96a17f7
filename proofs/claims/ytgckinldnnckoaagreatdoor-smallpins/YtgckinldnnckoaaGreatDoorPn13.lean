import Derived.Test.YtgckinldnnckoaaGreatDoorRows
import Derived.RangeFuncBox
import Derived.RangeFuncLeaves
import Derived.RangeFuncWrites
import Derived.Shelf.Abstract
import Derived.WalkKit
import Derived.OwnWalkIn
import Derived.TacticsInMore
import Derived.LoopNIn
import Derived.LoopIn
import Derived.Maps.AppendAt
import Derived.Shelf.Strings.Builder1
import Derived.Shelf.Strings.Builder2
import Derived.Shelf.Strings.OnBuilder
import Derived.Shelf.Strings.BuilderF
import Derived.Shelf.Strconv.Itoa0
import Derived.Shelf.Sort.Plain
import Derived.Shelf.Strings.Prefix
import Derived.Shelf.Bits.Mul64
import Derived.Shelf.Strings.Repeat
import Derived.Shelf.Slices.In.SortNone
import Derived.Test.YtgckinldnnckoaaGreatDoorProg
import Derived.Sort.OwnSortedInts
import Derived.Test.YtgckinldnnckoaaGreatDoorPn12
namespace Go.Proofs.YtgckinldnnckoaaGreatDoor
open Go.RowKit Go.Shelf

def LeavePost (w : World) (p : Nat) (c : AR) (d : AD) (off n : Int) (e : Ending) (w' : World) : Prop :=
  e = .returned (.tuple #[]) ∧ ∃ c', (∀ zs : List Int, zs.Perm ((d.fm n).getD [] ++ [off]) → ArenaAt w' p c' (d.freed n zs)) ∧ Keeps w w' (c.foot p) ∧ ∀ k, c'.foot p k → c.foot p k ∨ w.heap.size ≤ k

/-- The call of heap.Push. -/
theorem push_at {w : World} {p : Nat} {c : AR} {d : AD} (h : ArenaAt w p c d) {n : Int} {b : Nat} {xs : List Int} (hb : c.hb n = some b) (hx : d.fm n = some xs) (off : Int) (hl : xs.length < 134217728) :
    Calls Tryz.prog 158 #[.iface 212 (.pointer (some ⟨b, 0, none⟩)), .iface 3 (.int .i64 off)] w fun e w' => LeavePost w p c d off n e w' := by
  obtain ⟨us, hu, ha, hh⟩ := h.heaps.heap n b xs hb hx
  refine (heap_push ha hh off (by rw [hu.length_eq]; exact hl)).mono ?_
  rintro e w' ⟨rfl, ys, hp, hy, ht⟩
  obtain ⟨v', h1, h2, h3⟩ := h.heap_turned' hb hy ht
  refine ⟨rfl, _, fun zs hz => h1 zs ?_, h2, h3⟩
  rw [hx] at hz
  exact (hp.trans (hu.append_right _)).trans hz.symm

set_option maxHeartbeats 1000000 in
theorem leave_old {w : World} {p : Nat} {c : AR} {d : AD} (h : ArenaAt w p c d) (off n : Int) (hn : fitsI n) {xs : List Int} (hx : d.fm n = some xs) (hl : xs.length < 134217728) :
    Calls Tryz.prog 126 #[.pointer (some ⟨p, 0, none⟩), .int .i64 off, .int .i64 n] w fun e w' => LeavePost w p c d off n e w' := by
  obtain ⟨b, _, hb, _⟩ := h.heaps.block_of hx
  have c5 := h.cell5
  have hlk := look_ptr (w := w) Tryz.underlying3 Tryz.underlying110 (Tryz.zeroP w) h.free hn
  rw [hb] at hlk
  simp only [Option.map_some] at hlk
  have hP := push_at h hb hx off hl
  clear h
  go_enter Tryz.func126, Tryz.ntmps126
  go_wp2_with fail
  refine hP.mono ?_
  intro e w1 hp
  have he := hp.1
  subst he
  have HP := hide hp
  clear hP hp
  go_wp2_with fail
  go_end0
  exact HP.out

set_option maxRecDepth 100000 in
set_option maxHeartbeats 1000000 in
theorem leave_new {w : World} {p : Nat} {c : AR} {d : AD} (h : ArenaAt w p c d) (off n : Int) (hn : fitsI n) (hx : d.fm n = none) (hnf : c.nf < 4294967296) :
    Calls Tryz.prog 126 #[.pointer (some ⟨p, 0, none⟩), .int .i64 off, .int .i64 n] w fun e w' => LeavePost w p c d off n e w' := by
  have hb := h.heaps.none_of hx
  have c5 := h.cell5
  have hlk := look_ptr (w := w) Tryz.underlying3 Tryz.underlying110 (Tryz.zeroP w) h.free hn
  rw [hb] at hlk
  simp only [Option.map_none] at hlk
  have ka : Keeps w ((w.alloc (.cells #[] 3)).alloc (.cells #[.slice (some ⟨w.heap.size, 0, none⟩) 0 0] 213)) (fun _ => False) := ((Keeps.refl w (fun _ => False)).alloc _).alloc _
  have hs1 : (w.alloc (.cells #[] 3)).heap.size = w.heap.size + 1 := by simp
  obtain ⟨w3, hst, hf3, k3⟩ := (h.free.keeps ka id).store (v := .pointer (some ⟨w.heap.size + 1, 0, none⟩)) (a := w.heap.size + 1) Tryz.underlying3 Tryz.underlying110 (by unfold maxLen; omega) hn (rdr_ptr _)
  have hA : HeapAt ((w.alloc (.cells #[] 3)).alloc (.cells #[.slice (some ⟨w.heap.size, 0, none⟩) 0 0] 213)) (w.heap.size + 1) (.slice (some ⟨w.heap.size, 0, none⟩) 0 0) [] := by
    refine ⟨?_, rfl, Or.inr ⟨w.heap.size, 0, #[], rfl, Nat.zero_le _, ?_, Nat.le_refl _, Nat.zero_le _, rfl, rfl⟩⟩
    · have := heap_alloc_new (w.alloc (.cells #[] 3)) (.cells #[.slice (some ⟨w.heap.size, 0, none⟩) 0 0] 213)
      rw [hs1] at this
      exact this
    · have := heap_alloc_new w (.cells #[] 3)
      rw [((Keeps.refl (w.alloc (.cells #[] 3)) (fun _ => False)).alloc (.cells #[.slice (some ⟨w.heap.size, 0, none⟩) 0 0] 213)).block w.heap.size (by rw [hs1]; omega) id]
      exact this
  have hbf := h.free.lt
  have hA3 := hA.keeps k3 (fun e => by omega) (fun k hk e => by simp [Value.ownBlock] at hk; omega)
  obtain ⟨h4, k4, f4⟩ := h.heap_new hx ((ka.mono (S1 := fun i => i = c.bf) (fun _ _ e => e.elim)).trans k3 (fun _ _ e => e)) hf3 hA3 (by omega) (fun k hk => by simp [Value.ownBlock] at hk; omega)
  have c5' : w3.cell? ⟨p, 5, none⟩ = some (.map (some c.bf)) := h4.cell5
  have hlk' := look_ptr (w := w3) Tryz.underlying3 Tryz.underlying110 (Tryz.zeroP w3) hf3 hn
  have hb4 : upd c.hb n (some (w.heap.size + 1)) n = some (w.heap.size + 1) := upd_same _ _ _
  rw [hb4] at hlk'
  simp only [Option.map_some] at hlk'
  have hP : Calls Tryz.prog 158 #[.iface 212 (.pointer (some ⟨w.heap.size + 1, 0, none⟩)), .iface 3 (.int .i64 off)] w3 fun e w' => LeavePost w p c d off n e w' := by
    refine (push_at h4 hb4 (upd_same _ _ _) off (by simp)).mono ?_
    rintro e w' ⟨rfl, c', h5, k5, f5⟩
    refine ⟨rfl, c', fun ys hp => ?_, ?_, ?_⟩
    · have e0 : (d.freed n []).fm n = some [] := upd_same _ _ _
      rw [hx] at hp
      rw [e0] at h5
      have e1 : (d.freed n []).freed n ys = d.freed n ys := by
        unfold AD.freed
        congr 1
        funext y
        by_cases e : y = n <;> simp [upd, e]
      rw [← e1]
      exact h5 ys hp
    · exact k4.trans k5 (fun i hi e => by
        rcases f4 i e with e | e
        · exact e
        · omega)
    · intro k hk
      rcases f5 k hk with e | e
      · exact f4 k e
      · have := k4.size
        exact Or.inr (by omega)
  clear h h4 k4 f4 hA hA3 hf3 k3 ka hs1 hbf hnf hb4 hb hx
  go_enter Tryz.func126, Tryz.ntmps126
  go_wp2_with fail
  refine hP.mono ?_
  intro e w1 hp
  have he := hp.1
  subst he
  have HP := hide hp
  clear hP hp
  go_wp2_with fail
  go_end0
  exact HP.out
end Go.Proofs.YtgckinldnnckoaaGreatDoor
/-
  slices.Values, AppendSeq, Collect at lists of ints.
-/
namespace Go.Proofs.YtgckinldnnckoaaGreatDoor
open Go.RowKit Go.Shelf

attribute [local go_sem] Oper.semAt_some

def upto (zs : List Int) (k : Nat) : List Int := (List.range k).map (fun j => zs[j]?.getD 0)
theorem upto_succ (zs : List Int) (k : Nat) : upto zs (k + 1) = upto zs k ++ [zs[k]?.getD 0] := by simp [upto, List.range_succ]
theorem upto_length (zs : List Int) (k : Nat) : (upto zs k).length = k := by simp [upto]
theorem upto_all (zs : List Int) : upto zs zs.length = zs := by
  apply List.ext_getElem
  · simp [upto]
  · intro i h1 h2
    simp [upto, h2]

set_option maxRecDepth 100000 in
set_option maxHeartbeats 2000000 in
theorem vals_some (F : Fence) (n : Nat) (h7 : F.fn 157) (hro : F.round = none) (hn : 1 ≤ n) (l Bs n₀ b off len cap : Nat) (zs : List Int) (hreach : len * 8 ≤ 140737488351232) (hb : b < n₀) (J Jx : List Int → World → Prop)
    (hY : ∀ pre x W, J pre W → pre.length < len → YieldAt F (n - 1) Tryz.prog l #[.int .i64 x] W fun e W' =>
      (e = .returned (.bool true) ∧ J (pre ++ [x]) W' ∧ Below n₀ W W') ∨ (e = .returned (.bool false) ∧ Jx (pre ++ [x]) W'))
    (W : World) (hBs : W.cell? ⟨Bs, 0, none⟩ = some (.slice (some ⟨b, off, none⟩) len cap)) (hc : ∀ j, j < len → W.cell? ⟨b, off + j, none⟩ = some (.int .i64 (zs[j]?.getD 0))) (h0 : J [] W) :
    CallsIn F n Tryz.prog 157 #[.func (.yield l) #[] #[], .pointer (some ⟨Bs, 0, none⟩)] W fun e W' => (∃ v, e = .returned v) ∧
      ((∃ ys, ys = upto zs len ∧ J ys W') ∨ (∃ pre, (∃ k, k ≤ len ∧ pre = upto zs k) ∧ Jx pre W')) := by
  refine callsIn_of_wp Tryz.func157 rfl h7 ?_ hro
  simp only [Tryz.ntmps157, List.size_toArray, List.length_cons, List.length_nil, Nat.reduceAdd, Nat.reduceSub, Array.replicate_succ, Array.replicate_zero, List.push_toArray, List.append_toArray, List.nil_append, List.cons_append]
  gi_wp2
  gi_loopw [7] (fun i wr => ∃ k : Nat, k ≤ len ∧ i = .int .i64 k ∧ J (upto zs k) wr ∧ Below n₀ W wr)
    (fun i _ => len - (intOf i).toNat)
  case atStart => exact ⟨0, Nat.zero_le _, rfl, h0, Below.refl _ _⟩
  case round =>
    obtain ⟨k, hk, rfl, hJs, hnx⟩ := hrel
    have hcx : k < len → wr.cell? ⟨b, off + k, none⟩ = some (.int .i64 (zs[k]?.getD 0)) := fun h => (hnx.cell (p := ⟨b, off + k, none⟩) hb).trans (hc k h)
    by_cases hlt : k < len
    · obtain ⟨fn, tmps, assign, body, hy, hR⟩ := hY _ (zs[k]?.getD 0) wr hJs (by rw [upto_length]; exact hlt)
      have hcx' := hcx hlt
      gi_wp2
      refine hR.mono ?_
      rintro e W3 (⟨rfl, hJ3, hk3⟩ | ⟨rfl, hJx3⟩)
      · gi_wp2
        go_roundw
        case rel => exact ⟨k + 1, by omega, by simp, by rw [upto_succ]; exact hJ3, hnx.trans hk3⟩
        case measure => simp [intOf]; omega
      · gi_wp2
        refine bodyPost_ret (results_none rfl _ _ _) rfl ?_
        exact ⟨⟨_, rfl⟩, .inr ⟨_, ⟨k + 1, by omega, (upto_succ _ _).symm⟩, hJx3⟩⟩
    · obtain rfl : k = len := by omega
      gi_wp2
      go_end0
      exact ⟨⟨_, rfl⟩, .inl ⟨_, rfl, hJs⟩⟩

set_option maxHeartbeats 1000000 in
theorem values_in (F : Fence) (n : Nat) (h5 : F.fn 125) (hro : F.round = none) (a : Option Addr) (len cap : Nat) (w : World) :
    CallsIn F n Tryz.prog 125 #[.slice a len cap] w fun e w' => e = .returned (.func (.func 157) #[] #[.pointer (some ⟨w.heap.size, 0, none⟩)]) ∧ w' = w.alloc (.cells #[.slice a len cap] 22) := by
  refine callsIn_of_wp Tryz.func125 rfl h5 ?_ hro
  simp only [Tryz.ntmps125, List.size_toArray, List.length_cons, List.length_nil, Nat.reduceAdd, Nat.reduceSub, Array.replicate_succ, Array.replicate_zero, List.push_toArray, List.append_toArray, List.nil_append, List.cons_append]
  gi_wp2
  go_ret
  exact ⟨rfl, rfl⟩
end Go.Proofs.YtgckinldnnckoaaGreatDoor
namespace Go.Proofs.YtgckinldnnckoaaGreatDoor
open Go.RowKit Go.Shelf

attribute [local go_sem] Oper.semAt_some

set_option maxRecDepth 100000 in
set_option maxHeartbeats 1000000 in
theorem vals_none (F : Fence) (n : Nat) (h7 : F.fn 157) (hro : F.round = none) (l Bs : Nat) (a : Option Addr) (cap : Nat) (J : List Int → World → Prop) (W : World) (hBs : W.cell? ⟨Bs, 0, none⟩ = some (.slice a 0 cap)) (h0 : J [] W) :
    CallsIn F n Tryz.prog 157 #[.func (.yield l) #[] #[], .pointer (some ⟨Bs, 0, none⟩)] W fun e W' => (∃ v, e = .returned v) ∧ J [] W' := by
  refine callsIn_of_wp Tryz.func157 rfl h7 ?_ hro
  simp only [Tryz.ntmps157, List.size_toArray, List.length_cons, List.length_nil, Nat.reduceAdd, Nat.reduceSub, Array.replicate_succ, Array.replicate_zero, List.push_toArray, List.append_toArray, List.nil_append, List.cons_append]
  gi_wp2
  gi_loopw [7] (fun i wr => i = .int .i64 0 ∧ J [] wr) (fun _ _ => 0)
  case atStart => exact ⟨rfl, h0⟩
  case round =>
    obtain ⟨rfl, hJs⟩ := hrel
    gi_wp2
    go_end0
    exact ⟨⟨_, rfl⟩, hJs⟩

/-- The slice a holds zs, in a block below n₀. -/
def IntsBelow (n₀ : Nat) (W : World) (a : Option Addr) (zs : List Int) : Prop := zs = [] ∨ ∃ b off, a = some ⟨b, off, none⟩ ∧ b < n₀ ∧ ∀ j, j < zs.length → W.cell? ⟨b, off + j, none⟩ = some (.int .i64 (zs[j]?.getD 0))
theorem IntsBelow.below {n₀ : Nat} {A B : World} (h : Below n₀ A B) {a : Option Addr} {zs : List Int} : IntsBelow n₀ A a zs → IntsBelow n₀ B a zs
  | .inl e => .inl e
  | .inr ⟨b, off, e, hb, hc⟩ => .inr ⟨b, off, e, hb, fun j hj => (h.cell (p := ⟨b, off + j, none⟩) hb).trans (hc j hj)⟩
theorem upto_take (zs : List Int) {k : Nat} (hk : k ≤ zs.length) : upto zs k = zs.take k := by
  apply List.ext_getElem
  · simp [upto, hk]
  · intro i h1 h2
    have : i < zs.length := by simp [upto] at h1; omega
    simp [upto, this]

theorem values_stops (F : Fence) (n : Nat) (h7 : F.fn 157) (hro : F.round = none) (hn : 1 ≤ n) (Bs n₀ : Nat) (a : Option Addr) (cap : Nat) (zs : List Int) (hreach : zs.length * 8 ≤ 140737488351232) (w : World) (hBs : Bs < w.heap.size) (hn₀ : n₀ ≤ w.heap.size)
    (hc : w.cell? ⟨Bs, 0, none⟩ = some (.slice a zs.length cap)) (hI : IntsBelow n₀ w a zs) :
    SeqStopsK F n Tryz.prog 157 #[.pointer (some ⟨Bs, 0, none⟩)] (fun x : Int => #[Value.int .i64 x]) (Below n₀) (fun ys => ys = zs) (fun pre => pre <+: zs) zs.length w := fun l J Jx W hW _ _ hY h0 => by
  have hc' := (hW.cell (p := ⟨Bs, 0, none⟩) hBs).trans hc
  rcases hI.below (hW.mono hn₀) with rfl | ⟨b, off, rfl, hb, hcs⟩
  · exact (vals_none F n h7 hro l Bs a cap J W hc' h0).mono fun e W' ⟨he, hj⟩ => ⟨he, .inl ⟨_, rfl, hj⟩⟩
  · refine (vals_some F n h7 hro hn l Bs n₀ b off zs.length cap zs hreach hb J Jx hY W hc' hcs h0).mono ?_
    rintro e W' ⟨he, ⟨ys, rfl, hj⟩ | ⟨pre, ⟨k, hk, rfl⟩, hj⟩⟩
    · exact ⟨he, .inl ⟨_, upto_all zs, hj⟩⟩
    · exact ⟨he, .inr ⟨_, by rw [upto_take zs hk]; exact List.take_prefix _ _, hj⟩⟩

theorem Tryz.infoI2 : (Tryz.prog.info? 3).map (fun i => (i.zero, i.size, i.bytes)) = some (some (.int .i64 0), 1, 8) := by kernel_rfl

set_option maxRecDepth 100000 in
set_option maxHeartbeats 2000000 in
/-- AppendSeq(nil, Values(..)): a new list of the same. -/
theorem appendSeq_in (F : Fence) (n : Nat) (h3 : F.fn 177) (h7 : F.fn 157) (hro : F.round = none) (hn : 3 ≤ n) (Bv : Nat) (a : Option Addr) (cap : Nat) (zs : List Int) (hbytes : zs.length * 8 ≤ 140737488351232) (w : World) (hBv : Bv < w.heap.size)
    (hc : w.cell? ⟨Bv, 0, none⟩ = some (.slice a zs.length cap)) (hI : IntsBelow w.heap.size w a zs) :
    CallsIn F n Tryz.prog 177 #[.slice none 0 0, .func (.func 157) #[] #[.pointer (some ⟨Bv, 0, none⟩)]] w fun e W' => ∃ v, e = .returned v ∧ W'.ownsRow w.heap.size 3 1 v zs.length (zs.map (Value.int .i64)) ∧ (v = .slice none 0 0 ↔ zs = []) ∧ Below w.heap.size w W' := by
  have h1 : 1 ≤ n := by omega
  obtain ⟨i0, hi, hz0, hz1, hz2⟩ := info_parts Tryz.infoI2
  refine callsIn_of_wp_marks Tryz.func177 rfl h3 ?_ hro
  simp only [Tryz.ntmps177, List.size_toArray, List.length_cons, List.length_nil, Nat.reduceAdd, Nat.reduceSub, Array.replicate_succ, Array.replicate_zero, List.push_toArray, List.append_toArray, List.nil_append, List.cons_append]
  gi_wp2_with fail
  have bO := Boxed.new w 22 (.slice none 0 0)
  have hB0 : Below w.heap.size w (w.alloc (.cells #[.slice none 0 0] 22)) := (Below.refl _ w).alloc (Nat.le_refl _) _
  refine wpIn_rangeFunc_ownG hro h1 (gf := 157) (lb := #[.pointer (some ⟨Bv, 0, none⟩)]) rfl h7 (enters_of Tryz.func157 (by kernel_rfl) rfl)
    (values_stops F (n - 1) h7 hro (by omega) Bv w.heap.size a cap zs hbytes _ (by simp; omega) (by simp) ((hB0.cell (p := ⟨Bv, 0, none⟩) hBv).trans hc) (hI.below hB0)) belowK_t (belowK_b (by simp)) (Below.refl _ _) (fun _ => rfl)
    (fun pre W => (∃ v, Boxed W w.heap.size 22 v ∧ W.ownsRow w.heap.size 3 1 v pre.length (pre.map (Value.int .i64)) ∧ (v = .slice none 0 0 ↔ pre = [])) ∧ Below w.heap.size w W)
    (fun _ _ _ => False)
    (OwnFrom.and (Own.from (holdsRow_own w.heap.size w.heap.size 22 3 1 (fun pre => pre.length) (fun pre => pre.map (Value.int .i64)) (fun pre v => v = .slice none 0 0 ↔ pre = [])) _) (ownFrom_below (Nat.le_refl _) (by simp)))
    (fun _ _ _ _ _ hs _ _ => hs)
    ⟨⟨_, bO, World.ownsRow_nil _ _ _ _, by simp⟩, hB0⟩
    (fun x => { tmps := #[.slice none 0 0, .func (.func 157) #[] #[.pointer (some ⟨Bv, 0, none⟩)], .pointer (some ⟨w.heap.size, 0, none⟩), undef, .slice none 0 0, .int .i64 x, .func (.func 157) #[] #[.pointer (some ⟨Bv, 0, none⟩)], .int .i64 x, undef, undef, undef, undef, undef], defers := [] }) ?assign ?body ?done ?stop
  case assign =>
    intro l x W K hK
    gi_wp2
    exact hK
  case body =>
    rintro l pre x W ⟨⟨v, hv, hrow, hnil⟩, hB⟩ hlt
    have hc := hv.cell
    gi_wp2_with (gi_at_builtin; refine wpListIn_append_own _ rfl _ _ 22 rfl w.heap.size 3 i0 (.int .i64 0) 1 8 Tryz.underlying22 hi hz0 hz1 hz2 rfl (by decide) _ _ _ rfl (hrow.alloc _) ⟨W.heap.size, 0, none⟩ 1 1 [.int .i64 x] rfl rfl (cell_one_new _ _ _) (by simp [Value.oneCell']) (by unfold maxLen; omega) (by omega) (by have := hB.size; simp; omega) ?_; intro v' w1 hown' hgrow _; obtain ⟨g', cap', rfl⟩ := ownsRow_succ hown'; obtain ⟨hv1, hv2, hr2, hk2, hb2⟩ := hv.appended (by decide) hrow hB.size (Nat.le_refl _) hown' hgrow; have hc1 := hv1.cell; have hf1 := hv1.frozen)
    exact ⟨hk2.from _, hb2, ⟨_, hv2, by simpa using hr2, by simp⟩, hB.trans hb2⟩
  case done =>
    rintro D ys W hD rfl ⟨⟨v, hv, hrow, hnil⟩, hB⟩ hK
    have hc := hv.cell
    gi_wp2
    refine ⟨by simp, .inl ⟨_, _, rfl, run_takeDeferred hK, ?_⟩⟩
    exact ⟨_, results_tmp rfl _ _ _, v, rfl, ownsRow_putObj hrow _ hK rfl, hnil, hB.trans (belowK_b (w := w) (Nat.le_refl _) W D _ _ (by simp at hD; omega) hK rfl rfl)⟩
  case stop =>
    rintro D c pre W _ _ h _
    exact h.elim
end Go.Proofs.YtgckinldnnckoaaGreatDoor
namespace Go.Proofs
open Go.Shelf
def Tryz.lays189_ren : Go.Shelf.Ren := ⟨fun | 189 => 156 | 125 => 179 | 257 => 178 | 128 => 201 | 129 => 202 | 294 => 193 | 295 => 194 | 296 => 195 | 297 => 196 | 298 => 197 | 299 => 198 | 216 => 153 | 300 => 199 | 301 => 200 | 328 => 205 | 329 => 206 | 330 => 207 | 331 => 208 | 332 => 209 | 215 => 176 | 343 => 210 | n => n, fun | 28 => 22 | 3 => 3 | 46 => 135 | 0 => 0 | 51 => 242 | 53 => 24 | 4 => 4 | 183 => 252 | 182 => 251 | 131 => 188 | 5 => 5 | 9 => 9 | 218 => 261 | 222 => 264 | 228 => 266 | 229 => 88 | n => n, fun | n => n⟩
theorem Tryz.lays189 : Go.Proofs.Lays.n189 Tryz.prog Tryz.lays189_ren := {
  mixed := by kernel_rfl
  f125 := Tryz.func179.trans (congrArg some (by kernel_rfl))
  f128 := Tryz.func201.trans (congrArg some (by kernel_rfl))
  f129 := Tryz.func202.trans (congrArg some (by kernel_rfl))
  f189 := Tryz.func156.trans (congrArg some (by kernel_rfl))
  f215 := Tryz.func176.trans (congrArg some (by kernel_rfl))
  f216 := Tryz.func153.trans (congrArg some (by kernel_rfl))
  f257 := Tryz.func178.trans (congrArg some (by kernel_rfl))
  f294 := Tryz.func193.trans (congrArg some (by kernel_rfl))
  f295 := Tryz.func194.trans (congrArg some (by kernel_rfl))
  f296 := Tryz.func195.trans (congrArg some (by kernel_rfl))
  f297 := Tryz.func196.trans (congrArg some (by kernel_rfl))
  f298 := Tryz.func197.trans (congrArg some (by kernel_rfl))
  f299 := Tryz.func198.trans (congrArg some (by kernel_rfl))
  f300 := Tryz.func199.trans (congrArg some (by kernel_rfl))
  f301 := Tryz.func200.trans (congrArg some (by kernel_rfl))
  f328 := Tryz.func205.trans (congrArg some (by kernel_rfl))
  f329 := Tryz.func206.trans (congrArg some (by kernel_rfl))
  f330 := Tryz.func207.trans (congrArg some (by kernel_rfl))
  f331 := Tryz.func208.trans (congrArg some (by kernel_rfl))
  f332 := Tryz.func209.trans (congrArg some (by kernel_rfl))
  f343 := Tryz.func210.trans (congrArg some (by kernel_rfl))
  t0 := Tryz.underlying0
  a0 := Tryz.isAgg0
  z0 := Tryz.sizeOf0
  v0 := Tryz.zeroValue0
  t3 := Tryz.underlying3
  a3 := Tryz.isAgg3
  z3 := Tryz.sizeOf3
  v3 := Tryz.zeroValue3
  t4 := Tryz.underlying4
  a4 := Tryz.isAgg4
  z4 := Tryz.sizeOf4
  v4 := Tryz.zeroValue4
  t5 := Tryz.underlying5
  a5 := Tryz.isAgg5
  z5 := Tryz.sizeOf5
  v5 := Tryz.zeroValue5
  t9 := Tryz.underlying9
  a9 := Tryz.isAgg9
  z9 := Tryz.sizeOf9
  v9 := Tryz.zeroValue9
  t28 := Tryz.underlying22
  a28 := Tryz.isAgg22
  z28 := Tryz.sizeOf22
  v28 := Tryz.zeroValue22
  t46 := Tryz.underlying135
  a46 := Tryz.isAgg135
  z46 := Tryz.sizeOf135
  v46 := Tryz.zeroValue135
  t51 := Tryz.underlying242
  a51 := Tryz.isAgg242
  z51 := Tryz.sizeOf242
  v51 := Tryz.zeroValue242
  t53 := Tryz.underlying24
  a53 := Tryz.isAgg24
  z53 := Tryz.sizeOf24
  v53 := Tryz.zeroValue24
  t131 := Tryz.underlying188
  a131 := Tryz.isAgg188
  z131 := Tryz.sizeOf188
  v131 := Tryz.zeroValue188
  t182 := Tryz.underlying251
  a182 := Tryz.isAgg251
  z182 := Tryz.sizeOf251
  v182 := Tryz.zeroValue251
  t183 := Tryz.underlying252
  a183 := Tryz.isAgg252
  z183 := Tryz.sizeOf252
  v183 := Tryz.zeroValue252
  t218 := Tryz.underlying261
  a218 := Tryz.isAgg261
  z218 := Tryz.sizeOf261
  v218 := Tryz.zeroValue261
  t222 := Tryz.underlying264
  a222 := Tryz.isAgg264
  z222 := Tryz.sizeOf264
  v222 := Tryz.zeroValue264
  t228 := Tryz.underlying266
  a228 := Tryz.isAgg266
  z228 := Tryz.sizeOf266
  v228 := Tryz.zeroValue266
  t229 := Tryz.underlying88
  a229 := Tryz.isAgg88
  z229 := Tryz.sizeOf88
  v229 := Tryz.zeroValue88 }
open Go.Sort Go.RowKit in
theorem Tryz.slices_Sort_int (blk off cap : Nat) (zs : List Int) (w : World) (hH : Holds (Value.int .i64) w blk off zs.toArray) (hblk : blk < w.heap.size) (hsz : zs.length < 4611686018427387904) :
    Calls Tryz.prog 156 #[.slice (some ⟨blk, off, none⟩) zs.length cap] w fun e w' =>
      e = .returned (.tuple #[]) ∧ ∃ n os, w' = grow (putRow (Value.int .i64) (Sort.ahead w n) blk off (zs.mergeSort fun x y => decide (x ≤ y)).toArray) os := Any.slices_Sort_int Tryz.lays189 blk off cap zs w hH hblk hsz
open Go.RowKit Go.Sort in
theorem Tryz.slices_Sort_int_none (p : Option Addr) (cap : Nat) (w : World) :
    Calls Tryz.prog 156 #[.slice p 0 cap] w fun e w' => e = .returned (.tuple #[]) ∧ w' = w := Any.slices_Sort_int_none Tryz.lays189 p cap w
end Go.Proofs
namespace Go.Proofs.YtgckinldnnckoaaGreatDoor
open Go.RowKit Go.Shelf

theorem Keeps.ofBelow' {w w' : World} (h : Below w.heap.size w w') : Keeps w w' (fun _ => False) := ⟨h.os, h.tape, h.output, h.size, fun k hk _ => h.block k hk⟩
theorem values_any (a : Option Addr) (len cap : Nat) (w : World) :
    Calls Tryz.prog 125 #[.slice a len cap] w fun e w' => e = .returned (.func (.func 157) #[] #[.pointer (some ⟨w.heap.size, 0, none⟩)]) ∧ w' = w.alloc (.cells #[.slice a len cap] 22) :=
  callsIn_wide.1 (values_in Fence.wide 1 trivial rfl a len cap w)
def ListPost (w : World) (zs : List Int) (e : Ending) (w' : World) : Prop := ∃ v, e = .returned v ∧ w'.ownsRow w.heap.size 3 1 v zs.length (zs.map (Value.int .i64)) ∧ (v = .slice none 0 0 ↔ zs = []) ∧ Keeps w w' (fun _ => False)

set_option maxHeartbeats 400000 in
theorem collect_any (Bv : Nat) (a : Option Addr) (cap : Nat) (zs : List Int) (hbytes : zs.length * 8 ≤ 140737488351232) (w : World) (hBv : Bv < w.heap.size)
    (hc : w.cell? ⟨Bv, 0, none⟩ = some (.slice a zs.length cap)) (hI : IntsBelow w.heap.size w a zs) :
    Calls Tryz.prog 155 #[.func (.func 157) #[] #[.pointer (some ⟨Bv, 0, none⟩)]] w fun e w' => ListPost w zs e w' := by
  have hA := callsIn_wide.1 (appendSeq_in Fence.wide 3 trivial trivial rfl (Nat.le_refl _) Bv a cap zs hbytes w hBv hc hI)
  clear hc hI
  go_enter Tryz.func155, Tryz.ntmps155
  go_wp2_with fail
  refine hA.mono ?_
  rintro e w1 ⟨v, rfl, h1, h2, h3⟩
  have hf : Hid (ListPost w zs (.returned v) w1) := ⟨v, rfl, h1, h2, Keeps.ofBelow' h3⟩
  clear hA h1 h2 h3
  go_wp2_with fail
  go_ret
  exact hf.out

/-- In rising order. -/
def rising (zs : List Int) : List Int := zs.mergeSort fun x y => decide (x ≤ y)
theorem rising_length (zs : List Int) : (rising zs).length = zs.length := List.length_mergeSort _

set_option maxHeartbeats 400000 in
theorem sorted_any (Bv : Nat) (a : Option Addr) (cap : Nat) (zs : List Int) (hbytes : zs.length * 8 ≤ 140737488351232) (w : World) (hBv : Bv < w.heap.size)
    (hc : w.cell? ⟨Bv, 0, none⟩ = some (.slice a zs.length cap)) (hI : IntsBelow w.heap.size w a zs) :
    Calls Tryz.prog 124 #[.func (.func 157) #[] #[.pointer (some ⟨Bv, 0, none⟩)]] w fun e w' => ListPost w (rising zs) e w' := by
  have hC := collect_any Bv a cap zs hbytes w hBv hc hI
  clear hc hI
  go_enter Tryz.func124, Tryz.ntmps124
  go_wp2_with fail
  refine hC.mono ?_
  rintro e w1 ⟨v, rfl, h1, h2, h3⟩
  clear hC
  have hS : Calls Tryz.prog 156 #[v] w1 fun e w' => e = .returned (.tuple #[]) ∧ ListPost w (rising zs) (.returned v) w' := by
    rcases h1.2 with ⟨rfl, hn⟩ | ⟨g, cap', cur, rfl, hb, hg, hcap, hml, hsz, ht⟩
    · have hz : zs = [] := List.eq_nil_of_length_eq_zero hn
      subst hz
      refine (Tryz.slices_Sort_int_none none 0 w1).mono ?_
      rintro e w2 ⟨rfl, rfl⟩
      exact ⟨rfl, _, rfl, by simpa [rising] using h1, by simp [rising], h3⟩
    · rw [Nat.mul_one] at ht
      refine (Tryz.slices_Sort_int g 0 cap' zs w1 (Go.holds_of_blockI hg ht) (heap_lt hg) (by omega)).mono ?_
      rintro e w2 ⟨rfl, n, os, rfl⟩
      refine ⟨rfl, _, rfl, ?_, ?_, h3.trans (Keeps.ofGrown (Go.grownBy_sortedI _)) (fun i hi e => by cases e; omega)⟩
      · have := Go.ownsRow_sortedI (n := n) (os := os) (ts := rising zs) (ss := zs) (rising_length zs) hb hg hcap hml (by simpa using hsz)
        rw [rising_length]
        exact this
      · rw [h2]
        constructor
        · intro e
          subst e
          simp [rising]
        · intro e
          have := rising_length zs
          rw [e] at this
          exact List.eq_nil_of_length_eq_zero this.symm
  clear h1 h2 h3
  go_wp2_with fail
  refine hS.mono ?_
  rintro e w2 ⟨rfl, hp⟩
  have hf := hp
  clear hS hp
  have HF : Hid (ListPost w (rising zs) (.returned v) w2) := hf
  clear hf
  go_wp2_with fail
  go_ret
  exact HF.out
end Go.Proofs.YtgckinldnnckoaaGreatDoor
/-
  Blocks are freed: the data.
-/
namespace Go.Proofs.YtgckinldnnckoaaGreatDoor
open Go.RowKit Go.Shelf

/-- The block z of s bytes is freed. -/
def AD.gone (d : AD) (z : Int) (s : Nat) : AD := { d with used := d.used - s, lv := upd d.lv z none, fm := upd d.fm (s : Int) (some (rising ((d.fm (s : Int)).getD [] ++ [z]))) }
def Gone (d : AD) (z : Int) (d' : AD) : Prop := ∃ s : Nat, d.lv z = some (s : Int) ∧ d' = d.gone z s
theorem rising_perm (zs : List Int) : (rising zs).Perm zs := List.mergeSort_perm zs _
def Gones : AD → List Int → AD → Prop
  | d, [], d' => d' = d
  | d, z :: r, d' => ∃ d1, Gone d z d1 ∧ Gones d1 r d'
theorem Gones.snoc : ∀ {d : AD} {zs : List Int} {d1 : AD} {z : Int} {d2 : AD}, Gones d zs d1 → Gone d1 z d2 → Gones d (zs ++ [z]) d2
  | _, [], _, _, _, h, g => by cases h; exact ⟨_, g, rfl⟩
  | _, _ :: _, _, _, _, ⟨dm, h1, h2⟩, g => ⟨dm, h1, h2.snoc g⟩
theorem Gone.lv {d d' : AD} {z : Int} (h : Gone d z d') : d'.lv = upd d.lv z none := by
  obtain ⟨s, _, rfl⟩ := h
  rfl
theorem Gone.L {d d' : AD} {z : Int} (h : Gone d z d') : d'.L = d.L := by
  obtain ⟨s, _, rfl⟩ := h
  rfl
theorem Gone.bs {d d' : AD} {z : Int} (h : Gone d z d') : d'.bs = d.bs := by
  obtain ⟨s, _, rfl⟩ := h
  rfl
theorem Gone.limit {d d' : AD} {z : Int} (h : Gone d z d') : d'.limit = d.limit := by
  obtain ⟨s, _, rfl⟩ := h
  rfl
theorem Gones.L : ∀ {d : AD} {zs : List Int} {d' : AD}, Gones d zs d' → d'.L = d.L
  | _, [], _, h => by cases h; rfl
  | _, _ :: _, _, ⟨_, h1, h2⟩ => h2.L.trans h1.L
theorem Gones.bs : ∀ {d : AD} {zs : List Int} {d' : AD}, Gones d zs d' → d'.bs = d.bs
  | _, [], _, h => by cases h; rfl
  | _, _ :: _, _, ⟨_, h1, h2⟩ => h2.bs.trans h1.bs
theorem Gones.limit : ∀ {d : AD} {zs : List Int} {d' : AD}, Gones d zs d' → d'.limit = d.limit
  | _, [], _, h => by cases h; rfl
  | _, _ :: _, _, ⟨_, h1, h2⟩ => h2.limit.trans h1.limit
theorem Gones.lv : ∀ {d : AD} {zs : List Int} {d' : AD}, Gones d zs d' → ∀ y, d'.lv y = if y ∈ zs then none else d.lv y
  | _, [], _, h, y => by cases h; simp
  | _, z :: r, _, ⟨_, h1, h2⟩, y => by
    rw [h2.lv y, h1.lv]
    by_cases e1 : y ∈ r
    · simp [e1]
    · by_cases e2 : y = z
      · subst e2
        simp [e1, upd]
      · simp [e1, e2, upd]

theorem liveSum_gone : ∀ {s : Nat} {L : List (Nat × Nat)} {e : Nat} {lv : Int → Option Int} {o n : Nat}, Tiles s L e → (o, n) ∈ L → (lv (o : Int)).isSome = true → liveSum L lv = liveSum L (upd lv (o : Int) none) + n
  | _, [], _, _, _, _, _, hm, _ => by cases hm
  | s, y :: r, e, lv, o, n, h, hm, hs => by
    rw [liveSum_cons, liveSum_cons]
    rcases List.mem_cons.1 hm with e1 | hm'
    · subst e1
      rw [upd_same, hs]
      have e2 : liveSum r (upd lv ((o : Nat) : Int) none) = liveSum r lv := liveSum_congr (fun x hx => by
        have h1 := tiles_mem h.2.2 hx
        have h2 := h.1
        have h3 := h.2.1
        rw [upd_other _ _ _ _ (by simp at h2 h3; omega)])
      rw [e2]
      simp
      omega
    · have h1 := tiles_mem h.2.2 hm'
      have h2 := h.1
      have h3 := h.2.1
      rw [upd_other _ _ _ _ (by simp at h1; omega), liveSum_gone h.2.2 hm' hs]
      omega

theorem AD.Fine.gone {d d' : AD} (F : d.Fine) {z : Int} (h : Gone d z d') : d'.Fine := by
  obtain ⟨s, hz, rfl⟩ := h
  obtain ⟨o, n, rfl, e2, hm⟩ := F.live z s hz
  have e3 : n = s := by omega
  subst e3
  have hsum := liveSum_gone (lv := d.lv) F.tiles hm (by rw [hz]; rfl)
  have hsm : d.used = liveSum d.L (upd d.lv (o : Int) none) + n := F.sum.trans hsum
  refine ⟨F.tiles, fun x t hx => ?_, F.most, F.lim, ?_, ?_, ?_⟩
  · have hx : upd d.lv (o : Int) none x = some t := hx
    by_cases e : x = (o : Int)
    · subst e
      rw [upd_same] at hx
      cases hx
    · rw [upd_other _ _ _ _ e] at hx
      exact F.live x t hx
  · show d.used - n ≤ d.limit
    have := F.use
    omega
  · show d.used - n = liveSum d.L (upd d.lv (o : Int) none)
    omega
  · show FreeOK d.L (upd d.lv (o : Int) none) (upd d.fm (n : Int) (some (rising ((d.fm (n : Int)).getD [] ++ [(o : Int)]))))
    have hp := rising_perm ((d.fm (n : Int)).getD [] ++ [(o : Int)])
    generalize rising ((d.fm (n : Int)).getD [] ++ [(o : Int)]) = ys at *
    have hold : ∀ y, d.lv y = none → upd d.lv (o : Int) none y = none := fun y hy => by
      by_cases e : y = (o : Int)
      · rw [e, upd_same]
      · rw [upd_other _ _ _ _ e]
        exact hy
    have hin : ∀ y, y ∈ (d.fm (n : Int)).getD [] → d.lv y = none ∧ ∃ t ∈ d.L, y = (t.1 : Int) ∧ (n : Int) = (t.2 : Int) := fun y hy => by
      cases e : d.fm (n : Int) with
      | none => rw [e] at hy; simp at hy
      | some xs => rw [e] at hy; exact F.free.mem _ xs e y hy
    have hnd : ((d.fm (n : Int)).getD []).Nodup := by
      cases e : d.fm (n : Int) with
      | none => simp
      | some xs => exact F.free.nodup _ xs e
    refine ⟨fun x xs hx => ?_, fun x xs hx => ?_, fun x xs hx y hy => ?_, fun y hy hl => ?_⟩
    · by_cases e : x = (n : Int)
      · subst e
        rw [upd_same] at hx
        cases hx
        refine hp.nodup_iff.2 ?_
        rw [List.nodup_append]
        refine ⟨hnd, by simp, fun a ha b hb e => ?_⟩
        simp at hb
        have := (hin a ha).1
        rw [e, hb, hz] at this
        cases this
      · rw [upd_other _ _ _ _ e] at hx
        exact F.free.nodup x xs hx
    · by_cases e : x = (n : Int)
      · exact ⟨(o, n), hm, e⟩
      · rw [upd_other _ _ _ _ e] at hx
        exact F.free.size x xs hx
    · by_cases e : x = (n : Int)
      · subst e
        rw [upd_same] at hx
        cases hx
        rcases List.mem_append.1 (hp.mem_iff.1 hy) with h1 | h1
        · obtain ⟨h2, t, h3, h4, h5⟩ := hin y h1
          exact ⟨hold y h2, t, h3, h4, h5⟩
        · simp at h1
          subst h1
          exact ⟨upd_same _ _ _, (o, n), hm, rfl, rfl⟩
      · rw [upd_other _ _ _ _ e] at hx
        obtain ⟨h2, t, h3⟩ := F.free.mem x xs hx y hy
        exact ⟨hold y h2, t, h3⟩
    · by_cases e0 : ((y.1 : Nat) : Int) = (o : Int)
      · have : y = (o, n) := tiles_unique F.tiles hy hm (by simp; omega)
        subst this
        refine ⟨ys, upd_same _ _ _, hp.mem_iff.2 (by simp)⟩
      · rw [upd_other _ _ _ _ e0] at hl
        obtain ⟨xs, h1, h2⟩ := F.free.all y hy hl
        by_cases e : ((y.2 : Nat) : Int) = (n : Int)
        · rw [e, upd_same]
          rw [e] at h1
          refine ⟨ys, rfl, hp.mem_iff.2 ?_⟩
          rw [h1]
          simp [h2]
        · rw [upd_other _ _ _ _ e]
          exact ⟨xs, h1, h2⟩
theorem AD.Fine.gones : ∀ {d : AD} {zs : List Int} {d' : AD}, d.Fine → Gones d zs d' → d'.Fine
  | _, [], _, F, h => by cases h; exact F
  | _, _ :: _, _, F, ⟨_, h1, h2⟩ => (F.gone h1).gones h2
end Go.Proofs.YtgckinldnnckoaaGreatDoor
namespace Go.Proofs.YtgckinldnnckoaaGreatDoor
open Go.RowKit Go.Shelf

/-- Struck from the live ones, not yet among the free ones. -/
def AD.struck (d : AD) (z : Int) (s : Nat) : AD := { d with used := d.used - s, lv := upd d.lv z none }
theorem AD.struck_freed (d : AD) (z : Int) (s : Nat) : (d.struck z s).freed (s : Int) (rising ((d.fm (s : Int)).getD [] ++ [z])) = d.gone z s := rfl

theorem ArenaAt.struck {w w1 : World} {p : Nat} {c : AR} {d : AD} (h : ArenaAt w p c d) {z : Int} {s : Nat} (hs : s ≤ d.used) {nl : Nat} (k1 : Keeps w w1 (fun i => i = c.bl)) (hl : MapTo Tryz.prog cInt w1 c.bl nl (upd d.lv z none)) :
    ArenaAt (w1.setCell ⟨p, 1, none⟩ (.int .i64 ((d.used : Int) - (s : Int)))) p { c with nl := nl } (d.struck z s) ∧ Keeps w (w1.setCell ⟨p, 1, none⟩ (.int .i64 ((d.used : Int) - (s : Int)))) (c.foot p) ∧
      w1.cell? ⟨p, 1, none⟩ = some (.int .i64 (d.used : Int)) ∧ w1.frozen? ⟨p, 1, none⟩ = false := by
  have hp1 := (k1.block p (heap_lt h.hp) h.p_bl).trans h.hp
  have kS : Keeps w1 (w1.setCell ⟨p, 1, none⟩ (.int .i64 ((d.used : Int) - (s : Int)))) (fun k => k = p) := (Keeps.refl w1 (fun k => k = p)).setCell ⟨p, 1, none⟩ (fun _ => rfl) _
  refine ⟨⟨?_, ?_, ?_, ?_, ?_, h.hlf, ?_⟩, ?_, by simp [World.cell?, hp1], by simp [World.frozen?, hp1]⟩
  · have hlt := heap_lt hp1
    have hv := (Array.getElem?_eq_some_iff.1 hp1).2
    have e : ((d.used : Int) - (s : Int)) = ((d.used - s : Nat) : Int) := by omega
    simp only [World.setCell, Array.getElem?_modify]
    simp [hlt, hv, AD.struck, e]
  · exact (h.mem.keeps k1 (fun e => h.bl_b e.symm) (fun e => h.bl_g e.symm)).keeps kS h.p_b.symm h.p_g.symm
  · exact ownsRow_keeps (ownsRow_keeps h.beg k1 (fun k hk e => h.bl_v hk e.symm)) kS (fun k hk e => h.p_v hk e.symm)
  · exact hl.keeps kS h.p_bl.symm
  · exact (h.free.keeps k1 h.hlf.symm).keeps kS h.p_bf.symm
  · exact (h.heaps.keeps k1 (fun i hi e => (h.heap_ne hi).2.2.2.1 e)).keeps kS (fun i hi e => (h.heap_ne hi).1 e)
  · exact (k1.mono (S1 := c.foot p) (fun i _ e => Or.inr (Or.inr (Or.inr (Or.inl e))))).trans kS (fun i _ e => Or.inl e)

/-- leave, at what was just struck. -/
theorem leave_any {w : World} {p : Nat} {c : AR} {d : AD} (h : ArenaAt w p c d) (off : Int) (n : Nat) (hn : n ≤ 134217728) (hl : ∀ xs, d.fm (n : Int) = some xs → xs.length < 134217728) (hk : ∀ x, (d.fm x).isSome = true → x ∈ d.L.map (fun y => (y.2 : Int))) (hL : d.L.length ≤ 134217728) :
    Calls Tryz.prog 126 #[.pointer (some ⟨p, 0, none⟩), .int .i64 off, .int .i64 (n : Int)] w fun e w' => LeavePost w p c d off (n : Int) e w' := by
  have hf : fitsI (n : Int) := fitsI_mk (by omega) (by omega)
  cases hx : d.fm (n : Int) with
  | some xs => exact leave_old h off _ hf hx (hl xs hx)
  | none =>
    have ht := h.free.tight Tryz.underlying3 (d.L.map (fun y => (y.2 : Int))) (fun x _ e => hk x (by rw [← h.heaps.dom]; exact e))
    have h' : ArenaAt w p { c with nf := (d.L.map (fun y => (y.2 : Int))).length } d := { h with free := ht }
    exact (leave_new h' off _ hf hx (by simp; omega))

/-- Sorted, and none beside its like. -/
def goodAt (d : AD) (rs : List Int) (i : Nat) : Prop := (d.lv (at0 rs i)).isSome = true ∧ (0 < i → at0 rs i ≠ at0 rs (i - 1))
def allGood (d : AD) (rs : List Int) : Prop := ∀ i, i < rs.length → goodAt d rs i
theorem strict {d : AD} {rs : List Int} (hs : rs.Pairwise (· ≤ ·)) (hg : allGood d rs) {i j : Nat} (hij : i < j) (hj : j < rs.length) : at0 rs i < at0 rs j := by
  have hsl : ∀ a b, a < b → b < rs.length → at0 rs a ≤ at0 rs b := fun a b hab hb => by
    have := (List.pairwise_iff_getElem.1 hs) a b (by omega) hb hab
    simpa [at0, hb, show a < rs.length by omega] using this
  have h1 : at0 rs (j - 1) < at0 rs j := by
    have := hsl (j - 1) j (by omega) hj
    have := (hg j hj).2 (by omega)
    omega
  rcases Nat.lt_or_ge i (j - 1) with h | h
  · have := hsl i (j - 1) h (by omega)
    omega
  · rw [show i = j - 1 by omega]
    exact h1
theorem not_taken {d : AD} {rs : List Int} (hs : rs.Pairwise (· ≤ ·)) (hg : allGood d rs) {i : Nat} (hi : i < rs.length) : at0 rs i ∉ rs.take i := fun h => by
  obtain ⟨k, hk, e⟩ := List.getElem_of_mem h
  have hk' : k < i := by simp at hk; omega
  have h1 := strict hs hg hk' hi
  rw [List.getElem_take] at e
  have : at0 rs k = rs[k]'(by omega) := by simp [at0, show k < rs.length by omega]
  omega
end Go.Proofs.YtgckinldnnckoaaGreatDoor
namespace Go.Proofs.YtgckinldnnckoaaGreatDoor
open Go.RowKit Go.Shelf

theorem rising_sorted (zs : List Int) : (rising zs).Pairwise (· ≤ ·) := by
  have := List.pairwise_mergeSort (le := fun x y : Int => decide (x ≤ y)) (fun a b c h1 h2 => by simp at *; omega) (fun a b => by simp; omega) zs
  exact this.imp (fun h => by simpa using h)

def FreeRel (w1 : World) (p : Nat) (F : Nat → Prop) (d : AD) (rs : List Int) (i : Nat) (wr : World) : Prop :=
  ∃ d', Gones d (rs.take i) d' ∧ Arena wr p (fun k => F k ∨ w1.heap.size ≤ k) d' ∧ Keeps w1 wr F

theorem live_fits {d : AD} (F : d.Fine) {z : Int} {s : Int} (h : d.lv z = some s) : ∃ o n : Nat, z = o ∧ s = n ∧ 0 < n ∧ o + n ≤ 134217728 ∧ (o, n) ∈ d.L := by
  obtain ⟨o, n, e1, e2, hm⟩ := F.live z s h
  have := tiles_mem F.tiles hm
  have := F.most
  exact ⟨o, n, e1, e2, by simp at *; omega, by simp at *; omega, hm⟩

theorem free_step {w1 wr : World} {p : Nat} {F : Nat → Prop} {d : AD} {rs : List Int} {i : Nat} (hR : FreeRel w1 p F d rs i wr) (hF : d.Fine) (hi : i < rs.length) (hs : rs.Pairwise (· ≤ ·)) (hg : allGood d rs) :
    ∃ bl s u w2, wr.cell? ⟨p, 4, none⟩ = some (.map (some bl)) ∧ (Instr.lookup 109 (.map (some bl)) (.int .i64 (at0 rs i)) false).run Tryz.prog wr = .ok (.int .i64 ((s : Nat) : Int)) wr ∧
      (∀ ty, (Builtin.delete_ #[109, 3] ty #[.map (some bl), .int .i64 (at0 rs i)]).run Tryz.prog wr = .ok (.tuple #[]) w2) ∧ w2.cell? ⟨p, 1, none⟩ = some (.int .i64 ((u : Nat) : Int)) ∧ w2.frozen? ⟨p, 1, none⟩ = false ∧ s ≤ u ∧ u ≤ 134217728 ∧
      Calls Tryz.prog 126 #[.pointer (some ⟨p, 0, none⟩), .int .i64 (at0 rs i), .int .i64 (s : Int)] (w2.setCell ⟨p, 1, none⟩ (.int .i64 ((u : Int) - (s : Int)))) fun e w' => e = .returned (.tuple #[]) ∧ FreeRel w1 p F d rs (i + 1) w' := by
  obtain ⟨d', hG, ⟨c, h, hfo⟩, k0⟩ := hR
  have hF' := hF.gones hG
  obtain ⟨s0, hs0⟩ := Option.isSome_iff_exists.1 (hg i hi).1
  have hlv : d'.lv (at0 rs i) = some s0 := by
    rw [hG.lv, if_neg (not_taken hs hg hi)]
    exact hs0
  obtain ⟨o, s, ez, es, hpos, hmax, hm⟩ := live_fits hF' hlv
  rw [ez] at hlv ⊢
  subst es
  have hfit : fitsI (o : Int) := fitsI_mk (by omega) (by omega)
  have hlk := look_int (w := wr) Tryz.underlying3 Tryz.underlying109 (Tryz.zeroI wr) h.live hfit
  rw [hlv] at hlk
  obtain ⟨w2, hdel, hl2, k2⟩ := h.live.strike Tryz.underlying3 Tryz.underlying109 hfit
  have hsum := liveSum_gone (lv := d'.lv) hF'.tiles hm (by rw [hlv]; rfl)
  have hsu : s ≤ d'.used := by have := hF'.sum; omega
  have hu : d'.used ≤ 134217728 := by have := hF'.use; have := hF'.lim; omega
  obtain ⟨h3, k3, c1, f1⟩ := h.struck hsu k2 hl2
  have hL : d'.L.length ≤ 134217728 := by have := tiles_length hF'.tiles; have := hF'.most; omega
  refine ⟨c.bl, s, d'.used, w2, h.cell4, hlk, hdel, c1, f1, hsu, hu, ?_⟩
  refine (leave_any h3 (o : Int) s (by omega) (fun xs hx => ?_) (fun x hx => ?_) hL).mono ?_
  · have hx : d'.fm (s : Int) = some xs := hx
    have hnd := hF'.free.nodup _ xs hx
    have := length_le_of_subset hnd (l := d'.begins) (fun z hz => by
      obtain ⟨_, y, hy, e, _⟩ := hF'.free.mem _ xs hx z hz
      exact List.mem_map.2 ⟨y, hy, e.symm⟩)
    rw [AD.begins_length] at this
    have h16 := tiles_length hF'.tiles
    have := hF'.most
    omega
  · obtain ⟨xs, hx⟩ := Option.isSome_iff_exists.1 hx
    obtain ⟨y, hy, e⟩ := hF'.free.size x xs hx
    exact List.mem_map.2 ⟨y, hy, e.symm⟩
  · rintro e w' ⟨rfl, c', h4, k4, f4⟩
    have hg1 : Gone d' (at0 rs i) (d'.gone (o : Int) s) := by
      rw [ez]
      exact ⟨s, hlv, rfl⟩
    have hsz := k0.size
    have hsz2 := k3.size
    refine ⟨rfl, d'.gone (o : Int) s, ?_, ⟨c', h4 _ (rising_perm _), fun k hk => ?_⟩, ?_⟩
    · rw [List.take_succ_eq_append_getElem hi]
      have e1 : rs[i] = at0 rs i := by simp [at0, hi]
      rw [e1]
      exact hG.snoc hg1
    · rcases f4 k hk with e | e
      · exact hfo k e
      · exact Or.inr (by omega)
    · have hin : ∀ j, j < w1.heap.size → c.foot p j → F j := fun j hj e => by
        rcases hfo j e with e | e
        · exact e
        · omega
      exact (k0.trans k3 (fun j hj e => hin j hj e)).trans k4 (fun j hj e => hin j hj e)
end Go.Proofs.YtgckinldnnckoaaGreatDoor
namespace Go.Proofs.YtgckinldnnckoaaGreatDoor
open Go.RowKit Go.Shelf

def FreePost (w : World) (p : Nat) (F : Nat → Prop) (d : AD) (rs : List Int) (e : Ending) (w' : World) : Prop :=
  (allGood d rs ∧ e = .returned (.int .i64 0) ∧ ∃ d', Gones d rs d' ∧ Turned w w' p F d') ∨ (¬ allGood d rs ∧ e = .returned (.int .i64 23) ∧ Keeps w w' (fun _ => False))

/-- Behind Sorted: the list, in its own block. -/
structure SortedAt (w w1 : World) (g cap : Nat) (rs : List Int) : Prop where
  keeps : Keeps w w1 (fun _ => False)
  new : w.heap.size ≤ g
  lt : g < w1.heap.size
  cell : ∀ i, i < rs.length → w1.cell? ⟨g, i, none⟩ = some (.int .i64 (at0 rs i))
  hcap : rs.length ≤ cap
  hmost : cap ≤ maxLen

theorem rising_nil {zs : List Int} (h : rising zs = []) : zs = [] := by
  have := rising_length zs
  rw [h] at this
  exact List.eq_nil_of_length_eq_zero this.symm
theorem sorted_form {w w1 : World} {rs : List Int} {v : Value} (h : ListPost w rs (.returned v) w1) (h0 : 0 < rs.length) : ∃ g cap, v = .slice (some ⟨g, 0, none⟩) rs.length cap ∧ SortedAt w w1 g cap rs := by
  obtain ⟨v', e, h1, _, k⟩ := h
  cases e
  rcases h1.2 with ⟨_, hn⟩ | ⟨g, cap, cur, hv, hg, hh, hn, hm, hs, ht⟩
  · omega
  · refine ⟨g, cap, hv, k, hg, heap_lt hh, fun i hi => ?_, hn, hm⟩
    have e1 : (cur.toList.take (rs.length * 1))[i]? = (rs.map (Value.int .i64))[i]? := by rw [ht]
    rw [List.getElem?_take, if_pos (by omega), List.getElem?_map, at0_of_lt hi] at e1
    simp [World.cell?, hh]
    simpa using e1

set_option maxRecDepth 100000 in
set_option maxHeartbeats 4000000 in
theorem free_any {w : World} {p : Nat} {F : Nat → Prop} {d : AD} (h : Arena w p F d) (hFl : ∀ k, F k → k < w.heap.size) (hF : d.Fine) (a : Option Addr) (cap : Nat) (zs : List Int) (hz0 : 0 < zs.length) (hz1 : zs.length ≤ 134217728) (hfit : ∀ z ∈ zs, fitsI z) (hI : IntsBelow w.heap.size w a zs) :
    Calls Tryz.prog 87 #[.pointer (some ⟨p, 0, none⟩), .slice a zs.length cap] w fun e w' => FreePost w p F d (rising zs) e w' := by
  have hV := values_any a zs.length cap w
  have hrl := rising_length zs
  have hsort := rising_sorted zs
  have hfit' : ∀ i, i < (rising zs).length → fitsI (at0 (rising zs) i) := fun i hi => by
    have hm : at0 (rising zs) i ∈ rising zs := by
      rw [show at0 (rising zs) i = (rising zs)[i] by simp [at0, hi]]
      exact List.getElem_mem hi
    exact hfit _ ((List.mergeSort_perm zs _).mem_iff.1 hm)
  have hS : ∀ W, W = w.alloc (.cells #[.slice a zs.length cap] 22) → Calls Tryz.prog 124 #[.func (.func 157) #[] #[.pointer (some ⟨w.heap.size, 0, none⟩)]] W fun e w' => ListPost W (rising zs) e w' := fun W hW => by
    subst hW
    have k0 : Keeps w (w.alloc (.cells #[.slice a zs.length cap] 22)) (fun _ => False) := (Keeps.refl _ _).alloc _
    refine sorted_any w.heap.size a cap zs (by omega) _ (by simp) (by simp only [World.cell?, heap_alloc_new]; simp) ?_
    rcases hI with e | ⟨b, off, e, hb, hc⟩
    · exact Or.inl e
    · refine Or.inr ⟨b, off, e, by simp; omega, fun j hj => ?_⟩
      exact (World.cell?_of_block (k0.block b hb id)).trans (hc j hj)
  generalize rising zs = rs at *
  have kA : Keeps w (w.alloc (.cells #[.slice a zs.length cap] 22)) (fun _ => False) := (Keeps.refl _ _).alloc _
  have hsA : w.heap.size ≤ (w.alloc (.cells #[.slice a zs.length cap] 22)).heap.size := by simp
  clear hI
  go_enter Tryz.func87, Tryz.ntmps87
  go_wp2_with fail
  refine hV.mono ?_
  rintro e wv ⟨rfl, hwv⟩
  clear hV
  have hS := hS wv hwv
  rw [← hwv] at kA hsA
  clear hwv
  go_wp2_with fail
  refine hS.mono ?_
  intro e w1 hL
  obtain ⟨v, he, _⟩ := id hL
  subst he
  obtain ⟨g, cap', rfl, hso⟩ := sorted_form hL (by omega)
  clear hS hL
  have kw : Keeps w w1 (fun _ => False) := kA.trans hso.keeps (fun _ _ e => e)
  have hA1 : Arena w1 p F d := h.keeps kw (fun _ _ _ e => e)
  have hgF : ¬ F g := fun e => by have := hFl g e; have := hso.new; omega
  have hcell := hso.cell
  have hlen : rs.length ≤ 134217728 := by omega
  have hcap := hso.hcap
  have hcm := hso.hmost
  unfold maxLen at hcm
  obtain ⟨c, hc, hfo⟩ := hA1
  have c4 := hc.cell4
  have hlook : ∀ i, i < rs.length → (Instr.lookup 109 (.map (some c.bl)) (.int .i64 (at0 rs i)) false).run Tryz.prog w1 = .ok (.int .i64 ((d.lv (at0 rs i)).getD 0)) w1 := fun i hi => look_int (w := w1) Tryz.underlying3 Tryz.underlying109 (Tryz.zeroI w1) hc.live (hfit' i hi)
  have hlive0 : ∀ i, (d.lv (at0 rs i)).isSome = true → (d.lv (at0 rs i)).getD 0 ≠ 0 := fun i hi => by
    obtain ⟨s, hs⟩ := Option.isSome_iff_exists.1 hi
    obtain ⟨o, n, _, e, hp, _⟩ := live_fits hF hs
    rw [hs, e]
    simp
    omega
  have H := hide (show Arena w1 p F d from ⟨c, hc, hfo⟩)
  have HSO := hide hso
  have HH := hide h
  clear hc hfo h hso kA hsA
  go_wp2_with fail
  go_loopw [16] (fun vi wr => ∃ i : Nat, vi = .int .i64 (i : Int) ∧ i ≤ rs.length ∧ w1 = wr ∧ ∀ j, j < i → goodAt d rs j) (fun vi _ => rs.length - (intOf vi).toNat)
  case atStart => exact ⟨0, rfl, Nat.zero_le _, rfl, fun j hj => by omega⟩
  case round =>
    obtain ⟨i, rfl, hi, rfl, hgd⟩ := hrel
    have HG := hide hgd
    clear hgd
    rcases Nat.lt_or_ge i rs.length with hlt | hge
    · have hci := hcell i hlt
      have hlk := hlook i hlt
      have hltI : (i : Int) < (rs.length : Int) := by omega
      cases hlv : d.lv (at0 rs i) with
      | none =>
        rw [hlv] at hlk
        simp only [Option.getD_none] at hlk
        have hno : Hid (¬ allGood d rs) := fun hall => by have := (hall i hlt).1; rw [hlv] at this; cases this
        clear hlook hcell hlive0
        go_wp2_with fail
        go_ret
        exact Or.inr ⟨hno.out, rfl, kw⟩
      | some s =>
        have hs0 := hlive0 i (by rw [hlv]; rfl)
        rw [hlv] at hlk hs0
        simp only [Option.getD_some] at hlk hs0
        have hs1 : (s == 0) = false := by simpa using hs0
        rcases Nat.eq_zero_or_pos i with hz | hpos
        · subst hz
          have hgood : Hid (goodAt d rs 0) := ⟨by rw [hlv]; rfl, fun h => by omega⟩
          clear hlook hcell hlive0
          go_wp2_with fail
          exact ⟨⟨1, rfl, by omega, trivial, fun j hj => by rw [show j = 0 by omega]; exact hgood.out⟩, by simp [intOf]; omega⟩
        · obtain ⟨m, rfl⟩ : ∃ m, i = m + 1 := ⟨i - 1, by omega⟩
          have hcm1 := hcell m (by omega)
          by_cases heq : at0 rs (m + 1) = at0 rs m
          · have hno : Hid (¬ allGood d rs) := fun hall => (hall (m + 1) hlt).2 (by omega) heq
            have hb : (at0 rs (m + 1) == at0 rs m) = true := by simpa using heq
            clear hlook hcell hlive0 heq
            go_wp2_with fail
            go_ret
            exact Or.inr ⟨hno.out, rfl, kw⟩
          · have hgood : Hid (goodAt d rs (m + 1)) := ⟨by rw [hlv]; rfl, fun _ => heq⟩
            have hb : (at0 rs (m + 1) == at0 rs m) = false := by simpa using heq
            clear hlook hcell hlive0 heq
            go_wp2_with fail
            refine ⟨⟨m + 2, by go_num, by omega, trivial, fun j hj => ?_⟩, by simp [intOf]; omega⟩
            rcases Nat.lt_or_ge j (m + 1) with h | h
            · exact HG.out j h
            · rw [show j = m + 1 by omega]
              exact hgood.out
    · have hall : Hid (allGood d rs) := fun j hj => HG.out j (by omega)
      have hgeI : ¬ (i : Int) < (rs.length : Int) := by omega
      have HC := hide hcell
      clear hlook hcell hlive0 HG
      go_wp2_with fail
      go_loopw [44] (fun vk wq => ∃ k : Nat, vk = .int .i64 (k : Int) ∧ k ≤ rs.length ∧ FreeRel w1 p F d rs k wq) (fun vk _ => rs.length - (intOf vk).toNat)
      case atStart => exact ⟨0, rfl, Nat.zero_le _, d, rfl, H.out.mono (fun _ _ e => Or.inl e), Keeps.refl _ _⟩
      case round =>
        obtain ⟨k, rfl, hk, hR⟩ := hrel
        rcases Nat.lt_or_ge k rs.length with hklt | hkge
        · obtain ⟨bl, s, u, w2, c4', hlk', hdel, c1', f1', hsu, hu, hLv⟩ := free_step hR hF hklt hsort hall.out
          have hck : wr.cell? ⟨g, k, none⟩ = some (.int .i64 (at0 rs k)) := by
            obtain ⟨_, _, _, kk⟩ := hR
            exact (World.cell?_of_block (kk.block g HSO.out.lt hgF)).trans (HC.out k hklt)
          have hltI : (k : Int) < (rs.length : Int) := by omega
          have hsI : (s : Int) ≤ (u : Int) := by omega
          have huI : (u : Int) ≤ 134217728 := by omega
          clear hR
          go_wp2_with fail
          refine hLv.mono ?_
          rintro e w4 ⟨rfl, hr⟩
          have HR := hide hr
          clear hLv hr hdel hlk'
          go_wp2_with fail
          exact ⟨⟨k + 1, by go_num, by omega, HR.out⟩, by simp [intOf]; omega⟩
        · have hfin : FreePost w p F d rs (.returned (.int .i64 0)) wr := by
            obtain ⟨d', hG, hA, kk⟩ := hR
            rw [List.take_of_length_le hkge] at hG
            have hsz := kw.size
            refine Or.inl ⟨hall.out, rfl, d', hG, hA.mono (fun j _ e => ?_), (kw.mono (fun _ _ e => e.elim)).trans kk (fun _ _ e => e)⟩
            rcases e with e | e
            · exact Or.inl e
            · exact Or.inr (by omega)
          have HF := hide hfin
          have hgeI : ¬ (k : Int) < (rs.length : Int) := by omega
          clear hfin hR
          go_wp2_with fail
          go_ret
          exact HF.out
end Go.Proofs.YtgckinldnnckoaaGreatDoor
/-
  The law's own classOf.
-/
namespace Go.Proofs.YtgckinldnnckoaaGreatDoor
open Go.RowKit Go.Shelf

theorem pairs_one : ∀ x ∈ classPairs, ∀ y ∈ classPairs, x.2 < y.1 → y.2 < x.1 → x.1 = y.1 := by decide +kernel
theorem class_at {n : Nat} (h1 : 1 ≤ n) (h2 : n ≤ 1048576) {x : Nat × Nat} (hx : x ∈ classPairs) (ha : x.2 < n) (hb : n ≤ x.1) : x.1 = classN n := by
  obtain ⟨y, hy, e, h3, h4⟩ := class_spec n h1 h2
  rw [e]
  exact pairs_one x hx y hy (by omega) (by omega)
theorem pairs_next : ∀ x ∈ classPairs, x.1 < 1048576 → (x.1 = 16 ∧ (32, 16) ∈ classPairs) ∨ (x.1 ≠ 16 ∧ bits .and .i64 (x.1 : Int) ((x.1 : Int) - 1) = 0 ∧ (x.1 + x.1 / 2, x.1) ∈ classPairs) ∨ (x.1 ≠ 16 ∧ bits .and .i64 (x.1 : Int) ((x.1 : Int) - 1) ≠ 0 ∧ (x.1 + x.1 / 3, x.1) ∈ classPairs) := by decide +kernel
theorem pairs_le : ∀ x ∈ classPairs, 16 ≤ x.1 ∧ x.1 ≤ 1048576 ∧ x.2 < x.1 := by decide +kernel

/-- Free of one, by a statement. -/
theorem own_free1 {w w1 : World} {p : Nat} {X : Nat → Prop} {d : AD} (h : Own w w1 p X d) (hF : d.Fine) (z : Int) (s : Int) (hz : d.lv z = some s) (hX : ∀ k, X k → k < w1.heap.size) :
    Calls Tryz.prog 87 #[.pointer (some ⟨p, 0, none⟩), .slice (some ⟨w1.heap.size, 0, none⟩) 1 1] (w1.alloc (.cells #[.int .i64 z] 3)) fun e w' => e = .returned (.int .i64 0) ∧ ∃ d', Gone d z d' ∧ Own w w' p X d' ∧ Keeps w1 w' (fun k => (w.heap.size ≤ k ∧ ¬ X k) ∧ k < w1.heap.size) := by
  have k0 : Keeps w1 (w1.alloc (.cells #[.int .i64 z] 3)) (fun _ => False) := (Keeps.refl _ _).alloc _
  obtain ⟨o, n, ez, _, _, hm, _⟩ := live_fits hF hz
  have hr : rising [z] = [z] := by simp [rising]
  have hf := free_any (w := w1.alloc (.cells #[.int .i64 z] 3)) (h.here.keeps k0 (fun _ _ _ e => e)) (fun k hk => by have := hk.2; simp; omega) hF (some ⟨w1.heap.size, 0, none⟩) 1 [z] (by simp) (by simp) (fun y hy => by
    simp at hy
    subst hy
    rw [ez]
    exact fitsI_mk (by omega) (by omega)) (Or.inr ⟨w1.heap.size, 0, rfl, by simp, fun j hj => by
      have hj0 : j = 0 := by simpa using hj
      subst hj0
      simp only [World.cell?, heap_alloc_new]
      simp⟩)
  rw [hr] at hf
  have hgood : allGood d [z] := fun i hi => by
    have hi0 : i = 0 := by simpa using hi
    subst hi0
    exact ⟨by simp [at0, hz], fun h => by omega⟩
  refine hf.mono ?_
  intro e w2 hp
  rcases hp with ⟨_, rfl, d', ⟨d1, hg, hd⟩, ht⟩ | ⟨hno, _⟩
  · cases hd
    have ht' : Turned w1 w2 p (fun k => (w.heap.size ≤ k ∧ ¬ X k) ∧ k < w1.heap.size) d' := by
      refine ⟨ht.1.mono (fun i _ hi => ?_), (k0.mono (fun _ _ e => e.elim)).trans ht.2 (fun _ _ e => e)⟩
      rcases hi with hi | hi
      · exact Or.inl hi
      · exact Or.inr (by simp at hi; omega)
    exact ⟨rfl, d', hg, h.turn ht' hX, ht'.2⟩
  · exact absurd hgood hno
end Go.Proofs.YtgckinldnnckoaaGreatDoor
/-
  The law's text: a number as so many bytes.
-/
namespace Go.Proofs.YtgckinldnnckoaaGreatDoor
open Go.RowKit Go.Shelf
set_option linter.unusedVariables false

def txB (n : Int) (i : Nat) : UInt8 := UInt8.ofNat ((n / 256 ^ i) % 256).toNat
def txL (n : Int) (w : Nat) : List UInt8 := (List.range w).map (txB n)
theorem txL_length (n : Int) (w : Nat) : (txL n w).length = w := by simp [txL]
theorem txL_succ (n : Int) (w : Nat) : txL n (w + 1) = txL n w ++ [txB n w] := by simp [txL, List.range_succ]
theorem txB_nat (n : Int) (i : Nat) : ((txB n i).toNat : Int) = (n / 256 ^ i) % 256 := by
  unfold txB
  have h1 := Int.emod_nonneg (n / 256 ^ i) (show (256 : Int) ≠ 0 by decide)
  have h2 := Int.emod_lt_of_pos (n / 256 ^ i) (show (0 : Int) < 256 by decide)
  generalize n / 256 ^ i % 256 = q at *
  have : (UInt8.ofNat q.toNat).toNat = q.toNat := by
    rw [UInt8.toNat_ofNat']
    omega
  rw [this]
  omega
theorem tx_mix (n : Int) (w k : Nat) (h : k < w) : (rowOf (txL n k ++ zeros (w - k))).setIfInBounds k (.int .u8 ((txB n k).toNat : Int)) = rowOf (txL n (k + 1) ++ zeros (w - (k + 1))) := by
  apply Array.ext'
  obtain ⟨m, hm⟩ : ∃ m, w - k = m + 1 := ⟨w - k - 1, by omega⟩
  have hm' : w - (k + 1) = m := by omega
  rw [Array.toList_setIfInBounds, rowOf_toList, rowOf_toList, hm, hm']
  have e1 : cellsOf (txL n k ++ zeros (m + 1)) = cellsOf (txL n k) ++ (.int .u8 0 :: cellsOf (zeros m)) := by
    rw [cellsOf_append]
    rfl
  have e2 : cellsOf (txL n (k + 1) ++ zeros m) = cellsOf (txL n k) ++ (.int .u8 ((txB n k).toNat : Int) :: cellsOf (zeros m)) := by
    rw [txL_succ, List.append_assoc, cellsOf_append]
    rfl
  have hl : (cellsOf (txL n k)).length = k := by rw [cellsOf_length, txL_length]
  rw [e1, e2, List.set_append_right _ _ (by omega), hl, Nat.sub_self]
  rfl
theorem div_fits {n : Int} (h : fitsI n) (k : Nat) : fitsI (n / 256 ^ k) := by
  have hb := fitsI_bounds h
  have hp : (0 : Int) < 256 ^ k := Int.pow_pos (by decide)
  refine fitsI_mk ?_ ?_
  · refine Int.le_ediv_of_mul_le hp ?_
    have : (1 : Int) ≤ 256 ^ k := hp
    have := Int.mul_le_mul_of_nonneg_left this (show (0 : Int) ≤ 9223372036854775808 by decide)
    omega
  · refine Int.not_lt.1 fun hgt => ?_
    have h1 := Int.ediv_mul_le n (show (256 : Int) ^ k ≠ 0 by omega)
    have h2 := Int.mul_le_mul_of_nonneg_left (show (1 : Int) ≤ 256 ^ k from hp) (show 0 ≤ n / 256 ^ k by omega)
    omega
end Go.Proofs.YtgckinldnnckoaaGreatDoor
/-
  SetNext, Retire, Pin.
-/
namespace Go.Proofs.YtgckinldnnckoaaGreatDoor
open Go.RowKit Go.Shelf Ly Ct
set_option linter.unusedVariables false

section
variable {w : World} {p : Nat} {F : Nat → Prop} {d : AD} {l : Lay} {off gr G : Nat} {f : Nat → Int} {c : Nat → GC}
/-- What a call leaves that lays words of the header alone. -/
def HeadPost (w : World) (p : Nat) (F : Nat → Prop) (d : AD) (l : Lay) (off gr G : Nat) (f : Nat → Int) (c : Nat → GC) (w' : World) : Prop := ∃ d', Turned w w' p F d' ∧ d'.Fine ∧ TabD d' l off gr G f c ∧ Touch d d' off 64
theorem tset_tab (hA : Arena w p F d) (hF : d.Fine) (hFl : ∀ k, F k → k < w.heap.size) (h : TabD d l off gr G f c) (i : Nat) (hi : i < 8) (v : Int) (hv : fitsI v) :
    Calls Tryz.prog 74 #[.agg #[.pointer (some ⟨p, 0, none⟩), .int .i64 l.k, .int .i64 l.e, .int .i64 l.a, .int .i64 l.b, .int .i64 l.c, .int .i64 l.eo, .int .i64 l.bo, .int .i64 l.s, .int .i64 l.g, .int .i64 (off : Int)], .int .i64 (i : Int), .int .i64 v] w fun e w' => e = .returned (.int .i64 0) ∧ HeadPost w p F d l off gr G (updI f i v) c w' := by
  have ho := h.off_le hF
  obtain ⟨e1, h1, h2⟩ := h.set hi hv
  have := tset_any hA hF hFl l (off : Int) (i : Int) v (by omega) (by omega) (by omega) (by omega)
  rw [e1] at this
  refine this.mono ?_
  rintro e w' ⟨rfl, hT⟩
  exact ⟨rfl, _, hT, h2.fine hF, h1, h2⟩
theorem tstat_tab (hA : Arena w p F d) (hF : d.Fine) (h : TabD d l off gr G f c) :
    Calls Tryz.prog 47 #[.agg #[.pointer (some ⟨p, 0, none⟩), .int .i64 l.k, .int .i64 l.e, .int .i64 l.a, .int .i64 l.b, .int .i64 l.c, .int .i64 l.eo, .int .i64 l.bo, .int .i64 l.s, .int .i64 l.g, .int .i64 (off : Int)]] w fun e w' => e = .returned (.tuple #[statV f, .int .i64 0]) ∧ Keeps w w' (fun _ => False) := by
  have ho := h.off_le hF
  have := stat_yes hA hF l off h.good ho.1
  have e : statV (hdr d off) = statV f := by
    unfold statV
    rw [h.head 0 (by omega), h.head 1 (by omega), h.head 2 (by omega), h.head 3 (by omega), h.head 4 (by omega), h.head 5 (by omega), h.head 6 (by omega), h.head 7 (by omega)]
  rw [e] at this
  exact this
end
end Go.Proofs.YtgckinldnnckoaaGreatDoor
