import Derived.Test.YteglefnfnkgpcaaRows
import Derived.RangeFuncBox
import Derived.RangeFuncLeaves
import Derived.RangeFuncWrites
import Derived.Shelf.Abstract
import Derived.WalkKit
import Derived.OwnWalkIn
import Derived.TacticsInMore
import Derived.LoopNIn
import Derived.LoopIn
import Derived.Maps.AppendAt
import Derived.Shelf.Sort.Plain
import Derived.Shelf.Slices.In.SortNone
import Derived.Test.YteglefnfnkgpcaaProg
import Derived.Sort.OwnSortedInts
import Derived.Test.YteglefnfnkgpcaaRn5
namespace Go.Proofs.Yteglefnfnkgpcaa
open Go.RowKit Go.Shelf

def LeavePost (w : World) (p : Nat) (c : AR) (d : AD) (off n : Int) (e : Ending) (w' : World) : Prop :=
  e = .returned (.tuple #[]) ∧ ∃ c', (∀ zs : List Int, zs.Perm ((d.fm n).getD [] ++ [off]) → ArenaAt w' p c' (d.freed n zs)) ∧ Keeps w w' (c.foot p) ∧ ∀ k, c'.foot p k → c.foot p k ∨ w.heap.size ≤ k

/-- The call of heap.Push. -/
theorem push_at {w : World} {p : Nat} {c : AR} {d : AD} (h : ArenaAt w p c d) {n : Int} {b : Nat} {xs : List Int} (hb : c.hb n = some b) (hx : d.fm n = some xs) (off : Int) (hl : xs.length < 134217728) :
    Calls Try.prog 56 #[.iface 97 (.pointer (some ⟨b, 0, none⟩)), .iface 3 (.int .i64 off)] w fun e w' => LeavePost w p c d off n e w' := by
  obtain ⟨us, hu, ha, hh⟩ := h.heaps.heap n b xs hb hx
  refine (heap_push ha hh off (by rw [hu.length_eq]; exact hl)).mono ?_
  rintro e w' ⟨rfl, ys, hp, hy, ht⟩
  obtain ⟨v', h1, h2, h3⟩ := h.heap_turned' hb hy ht
  refine ⟨rfl, _, fun zs hz => h1 zs ?_, h2, h3⟩
  rw [hx] at hz
  exact (hp.trans (hu.append_right _)).trans hz.symm

set_option maxHeartbeats 1000000 in
theorem leave_old {w : World} {p : Nat} {c : AR} {d : AD} (h : ArenaAt w p c d) (off n : Int) (hn : fitsI n) {xs : List Int} (hx : d.fm n = some xs) (hl : xs.length < 134217728) :
    Calls Try.prog 37 #[.pointer (some ⟨p, 0, none⟩), .int .i64 off, .int .i64 n] w fun e w' => LeavePost w p c d off n e w' := by
  obtain ⟨b, _, hb, _⟩ := h.heaps.block_of hx
  have c5 := h.cell5
  have hlk := look_ptr (w := w) Try.underlying3 Try.underlying70 (Try.zeroP w) h.free hn
  rw [hb] at hlk
  simp only [Option.map_some] at hlk
  have hP := push_at h hb hx off hl
  clear h
  go_enter Try.func37, Try.ntmps37
  go_wp2_with fail
  refine hP.mono ?_
  intro e w1 hp
  have he := hp.1
  subst he
  have HP := hide hp
  clear hP hp
  go_wp2_with fail
  go_end0
  exact HP.out

set_option maxRecDepth 100000 in
set_option maxHeartbeats 1000000 in
theorem leave_new {w : World} {p : Nat} {c : AR} {d : AD} (h : ArenaAt w p c d) (off n : Int) (hn : fitsI n) (hx : d.fm n = none) (hnf : c.nf < 4294967296) :
    Calls Try.prog 37 #[.pointer (some ⟨p, 0, none⟩), .int .i64 off, .int .i64 n] w fun e w' => LeavePost w p c d off n e w' := by
  have hb := h.heaps.none_of hx
  have c5 := h.cell5
  have hlk := look_ptr (w := w) Try.underlying3 Try.underlying70 (Try.zeroP w) h.free hn
  rw [hb] at hlk
  simp only [Option.map_none] at hlk
  have ka : Keeps w ((w.alloc (.cells #[] 3)).alloc (.cells #[.slice (some ⟨w.heap.size, 0, none⟩) 0 0] 98)) (fun _ => False) := ((Keeps.refl w (fun _ => False)).alloc _).alloc _
  have hs1 : (w.alloc (.cells #[] 3)).heap.size = w.heap.size + 1 := by simp
  obtain ⟨w3, hst, hf3, k3⟩ := (h.free.keeps ka id).store (v := .pointer (some ⟨w.heap.size + 1, 0, none⟩)) (a := w.heap.size + 1) Try.underlying3 Try.underlying70 (by unfold maxLen; omega) hn (rdr_ptr _)
  have hA : HeapAt ((w.alloc (.cells #[] 3)).alloc (.cells #[.slice (some ⟨w.heap.size, 0, none⟩) 0 0] 98)) (w.heap.size + 1) (.slice (some ⟨w.heap.size, 0, none⟩) 0 0) [] := by
    refine ⟨?_, rfl, Or.inr ⟨w.heap.size, 0, #[], rfl, Nat.zero_le _, ?_, Nat.le_refl _, Nat.zero_le _, rfl, rfl⟩⟩
    · have := heap_alloc_new (w.alloc (.cells #[] 3)) (.cells #[.slice (some ⟨w.heap.size, 0, none⟩) 0 0] 98)
      rw [hs1] at this
      exact this
    · have := heap_alloc_new w (.cells #[] 3)
      rw [((Keeps.refl (w.alloc (.cells #[] 3)) (fun _ => False)).alloc (.cells #[.slice (some ⟨w.heap.size, 0, none⟩) 0 0] 98)).block w.heap.size (by rw [hs1]; omega) id]
      exact this
  have hbf := h.free.lt
  have hA3 := hA.keeps k3 (fun e => by omega) (fun k hk e => by simp [Value.ownBlock] at hk; omega)
  obtain ⟨h4, k4, f4⟩ := h.heap_new hx ((ka.mono (S1 := fun i => i = c.bf) (fun _ _ e => e.elim)).trans k3 (fun _ _ e => e)) hf3 hA3 (by omega) (fun k hk => by simp [Value.ownBlock] at hk; omega)
  have c5' : w3.cell? ⟨p, 5, none⟩ = some (.map (some c.bf)) := h4.cell5
  have hlk' := look_ptr (w := w3) Try.underlying3 Try.underlying70 (Try.zeroP w3) hf3 hn
  have hb4 : upd c.hb n (some (w.heap.size + 1)) n = some (w.heap.size + 1) := upd_same _ _ _
  rw [hb4] at hlk'
  simp only [Option.map_some] at hlk'
  have hP : Calls Try.prog 56 #[.iface 97 (.pointer (some ⟨w.heap.size + 1, 0, none⟩)), .iface 3 (.int .i64 off)] w3 fun e w' => LeavePost w p c d off n e w' := by
    refine (push_at h4 hb4 (upd_same _ _ _) off (by simp)).mono ?_
    rintro e w' ⟨rfl, c', h5, k5, f5⟩
    refine ⟨rfl, c', fun ys hp => ?_, ?_, ?_⟩
    · have e0 : (d.freed n []).fm n = some [] := upd_same _ _ _
      rw [hx] at hp
      rw [e0] at h5
      have e1 : (d.freed n []).freed n ys = d.freed n ys := by
        unfold AD.freed
        congr 1
        funext y
        by_cases e : y = n <;> simp [upd, e]
      rw [← e1]
      exact h5 ys hp
    · exact k4.trans k5 (fun i hi e => by
        rcases f4 i e with e | e
        · exact e
        · omega)
    · intro k hk
      rcases f5 k hk with e | e
      · exact f4 k e
      · have := k4.size
        exact Or.inr (by omega)
  clear h h4 k4 f4 hA hA3 hf3 k3 ka hs1 hbf hnf hb4 hb hx
  go_enter Try.func37, Try.ntmps37
  go_wp2_with fail
  refine hP.mono ?_
  intro e w1 hp
  have he := hp.1
  subst he
  have HP := hide hp
  clear hP hp
  go_wp2_with fail
  go_end0
  exact HP.out
end Go.Proofs.Yteglefnfnkgpcaa
/-
  slices.Values, AppendSeq, Collect at lists of ints.
-/
namespace Go.Proofs.Yteglefnfnkgpcaa
open Go.RowKit Go.Shelf

attribute [local go_sem] Oper.semAt_some

def upto (zs : List Int) (k : Nat) : List Int := (List.range k).map (fun j => zs[j]?.getD 0)
theorem upto_succ (zs : List Int) (k : Nat) : upto zs (k + 1) = upto zs k ++ [zs[k]?.getD 0] := by simp [upto, List.range_succ]
theorem upto_length (zs : List Int) (k : Nat) : (upto zs k).length = k := by simp [upto]
theorem upto_all (zs : List Int) : upto zs zs.length = zs := by
  apply List.ext_getElem
  · simp [upto]
  · intro i h1 h2
    simp [upto, h2]

set_option maxRecDepth 100000 in
set_option maxHeartbeats 2000000 in
theorem vals_some (F : Fence) (n : Nat) (h7 : F.fn 55) (hro : F.round = none) (hn : 1 ≤ n) (l Bs n₀ b off len cap : Nat) (zs : List Int) (hreach : len * 8 ≤ 140737488351232) (hb : b < n₀) (J Jx : List Int → World → Prop)
    (hY : ∀ pre x W, J pre W → pre.length < len → YieldAt F (n - 1) Try.prog l #[.int .i64 x] W fun e W' =>
      (e = .returned (.bool true) ∧ J (pre ++ [x]) W' ∧ Below n₀ W W') ∨ (e = .returned (.bool false) ∧ Jx (pre ++ [x]) W'))
    (W : World) (hBs : W.cell? ⟨Bs, 0, none⟩ = some (.slice (some ⟨b, off, none⟩) len cap)) (hc : ∀ j, j < len → W.cell? ⟨b, off + j, none⟩ = some (.int .i64 (zs[j]?.getD 0))) (h0 : J [] W) :
    CallsIn F n Try.prog 55 #[.func (.yield l) #[] #[], .pointer (some ⟨Bs, 0, none⟩)] W fun e W' => (∃ v, e = .returned v) ∧
      ((∃ ys, ys = upto zs len ∧ J ys W') ∨ (∃ pre, (∃ k, k ≤ len ∧ pre = upto zs k) ∧ Jx pre W')) := by
  refine callsIn_of_wp Try.func55 rfl h7 ?_ hro
  simp only [Try.ntmps55, List.size_toArray, List.length_cons, List.length_nil, Nat.reduceAdd, Nat.reduceSub, Array.replicate_succ, Array.replicate_zero, List.push_toArray, List.append_toArray, List.nil_append, List.cons_append]
  gi_wp2
  gi_loopw [7] (fun i wr => ∃ k : Nat, k ≤ len ∧ i = .int .i64 k ∧ J (upto zs k) wr ∧ Below n₀ W wr)
    (fun i _ => len - (intOf i).toNat)
  case atStart => exact ⟨0, Nat.zero_le _, rfl, h0, Below.refl _ _⟩
  case round =>
    obtain ⟨k, hk, rfl, hJs, hnx⟩ := hrel
    have hcx : k < len → wr.cell? ⟨b, off + k, none⟩ = some (.int .i64 (zs[k]?.getD 0)) := fun h => (hnx.cell (p := ⟨b, off + k, none⟩) hb).trans (hc k h)
    by_cases hlt : k < len
    · obtain ⟨fn, tmps, assign, body, hy, hR⟩ := hY _ (zs[k]?.getD 0) wr hJs (by rw [upto_length]; exact hlt)
      have hcx' := hcx hlt
      gi_wp2
      refine hR.mono ?_
      rintro e W3 (⟨rfl, hJ3, hk3⟩ | ⟨rfl, hJx3⟩)
      · gi_wp2
        go_roundw
        case rel => exact ⟨k + 1, by omega, by simp, by rw [upto_succ]; exact hJ3, hnx.trans hk3⟩
        case measure => simp [intOf]; omega
      · gi_wp2
        refine bodyPost_ret (results_none rfl _ _ _) rfl ?_
        exact ⟨⟨_, rfl⟩, .inr ⟨_, ⟨k + 1, by omega, (upto_succ _ _).symm⟩, hJx3⟩⟩
    · obtain rfl : k = len := by omega
      gi_wp2
      go_end0
      exact ⟨⟨_, rfl⟩, .inl ⟨_, rfl, hJs⟩⟩

set_option maxHeartbeats 1000000 in
theorem values_in (F : Fence) (n : Nat) (h5 : F.fn 36) (hro : F.round = none) (a : Option Addr) (len cap : Nat) (w : World) :
    CallsIn F n Try.prog 36 #[.slice a len cap] w fun e w' => e = .returned (.func (.func 55) #[] #[.pointer (some ⟨w.heap.size, 0, none⟩)]) ∧ w' = w.alloc (.cells #[.slice a len cap] 28) := by
  refine callsIn_of_wp Try.func36 rfl h5 ?_ hro
  simp only [Try.ntmps36, List.size_toArray, List.length_cons, List.length_nil, Nat.reduceAdd, Nat.reduceSub, Array.replicate_succ, Array.replicate_zero, List.push_toArray, List.append_toArray, List.nil_append, List.cons_append]
  gi_wp2
  go_ret
  exact ⟨rfl, rfl⟩
end Go.Proofs.Yteglefnfnkgpcaa
namespace Go.Proofs.Yteglefnfnkgpcaa
open Go.RowKit Go.Shelf

attribute [local go_sem] Oper.semAt_some

set_option maxRecDepth 100000 in
set_option maxHeartbeats 1000000 in
theorem vals_none (F : Fence) (n : Nat) (h7 : F.fn 55) (hro : F.round = none) (l Bs : Nat) (a : Option Addr) (cap : Nat) (J : List Int → World → Prop) (W : World) (hBs : W.cell? ⟨Bs, 0, none⟩ = some (.slice a 0 cap)) (h0 : J [] W) :
    CallsIn F n Try.prog 55 #[.func (.yield l) #[] #[], .pointer (some ⟨Bs, 0, none⟩)] W fun e W' => (∃ v, e = .returned v) ∧ J [] W' := by
  refine callsIn_of_wp Try.func55 rfl h7 ?_ hro
  simp only [Try.ntmps55, List.size_toArray, List.length_cons, List.length_nil, Nat.reduceAdd, Nat.reduceSub, Array.replicate_succ, Array.replicate_zero, List.push_toArray, List.append_toArray, List.nil_append, List.cons_append]
  gi_wp2
  gi_loopw [7] (fun i wr => i = .int .i64 0 ∧ J [] wr) (fun _ _ => 0)
  case atStart => exact ⟨rfl, h0⟩
  case round =>
    obtain ⟨rfl, hJs⟩ := hrel
    gi_wp2
    go_end0
    exact ⟨⟨_, rfl⟩, hJs⟩

/-- The slice a holds zs, in a block below n₀. -/
def IntsBelow (n₀ : Nat) (W : World) (a : Option Addr) (zs : List Int) : Prop := zs = [] ∨ ∃ b off, a = some ⟨b, off, none⟩ ∧ b < n₀ ∧ ∀ j, j < zs.length → W.cell? ⟨b, off + j, none⟩ = some (.int .i64 (zs[j]?.getD 0))
theorem IntsBelow.below {n₀ : Nat} {A B : World} (h : Below n₀ A B) {a : Option Addr} {zs : List Int} : IntsBelow n₀ A a zs → IntsBelow n₀ B a zs
  | .inl e => .inl e
  | .inr ⟨b, off, e, hb, hc⟩ => .inr ⟨b, off, e, hb, fun j hj => (h.cell (p := ⟨b, off + j, none⟩) hb).trans (hc j hj)⟩
theorem upto_take (zs : List Int) {k : Nat} (hk : k ≤ zs.length) : upto zs k = zs.take k := by
  apply List.ext_getElem
  · simp [upto, hk]
  · intro i h1 h2
    have : i < zs.length := by simp [upto] at h1; omega
    simp [upto, this]

theorem values_stops (F : Fence) (n : Nat) (h7 : F.fn 55) (hro : F.round = none) (hn : 1 ≤ n) (Bs n₀ : Nat) (a : Option Addr) (cap : Nat) (zs : List Int) (hreach : zs.length * 8 ≤ 140737488351232) (w : World) (hBs : Bs < w.heap.size) (hn₀ : n₀ ≤ w.heap.size)
    (hc : w.cell? ⟨Bs, 0, none⟩ = some (.slice a zs.length cap)) (hI : IntsBelow n₀ w a zs) :
    SeqStopsK F n Try.prog 55 #[.pointer (some ⟨Bs, 0, none⟩)] (fun x : Int => #[Value.int .i64 x]) (Below n₀) (fun ys => ys = zs) (fun pre => pre <+: zs) zs.length w := fun l J Jx W hW _ _ hY h0 => by
  have hc' := (hW.cell (p := ⟨Bs, 0, none⟩) hBs).trans hc
  rcases hI.below (hW.mono hn₀) with rfl | ⟨b, off, rfl, hb, hcs⟩
  · exact (vals_none F n h7 hro l Bs a cap J W hc' h0).mono fun e W' ⟨he, hj⟩ => ⟨he, .inl ⟨_, rfl, hj⟩⟩
  · refine (vals_some F n h7 hro hn l Bs n₀ b off zs.length cap zs hreach hb J Jx hY W hc' hcs h0).mono ?_
    rintro e W' ⟨he, ⟨ys, rfl, hj⟩ | ⟨pre, ⟨k, hk, rfl⟩, hj⟩⟩
    · exact ⟨he, .inl ⟨_, upto_all zs, hj⟩⟩
    · exact ⟨he, .inr ⟨_, by rw [upto_take zs hk]; exact List.take_prefix _ _, hj⟩⟩

theorem Try.infoI2 : (Try.prog.info? 3).map (fun i => (i.zero, i.size, i.bytes)) = some (some (.int .i64 0), 1, 8) := by kernel_rfl

set_option maxRecDepth 100000 in
set_option maxHeartbeats 2000000 in
/-- AppendSeq(nil, Values(..)): a new list of the same. -/
theorem appendSeq_in (F : Fence) (n : Nat) (h3 : F.fn 67) (h7 : F.fn 55) (hro : F.round = none) (hn : 3 ≤ n) (Bv : Nat) (a : Option Addr) (cap : Nat) (zs : List Int) (hbytes : zs.length * 8 ≤ 140737488351232) (w : World) (hBv : Bv < w.heap.size)
    (hc : w.cell? ⟨Bv, 0, none⟩ = some (.slice a zs.length cap)) (hI : IntsBelow w.heap.size w a zs) :
    CallsIn F n Try.prog 67 #[.slice none 0 0, .func (.func 55) #[] #[.pointer (some ⟨Bv, 0, none⟩)]] w fun e W' => ∃ v, e = .returned v ∧ W'.ownsRow w.heap.size 3 1 v zs.length (zs.map (Value.int .i64)) ∧ (v = .slice none 0 0 ↔ zs = []) ∧ Below w.heap.size w W' := by
  have h1 : 1 ≤ n := by omega
  obtain ⟨i0, hi, hz0, hz1, hz2⟩ := info_parts Try.infoI2
  refine callsIn_of_wp_marks Try.func67 rfl h3 ?_ hro
  simp only [Try.ntmps67, List.size_toArray, List.length_cons, List.length_nil, Nat.reduceAdd, Nat.reduceSub, Array.replicate_succ, Array.replicate_zero, List.push_toArray, List.append_toArray, List.nil_append, List.cons_append]
  gi_wp2_with fail
  have bO := Boxed.new w 28 (.slice none 0 0)
  have hB0 : Below w.heap.size w (w.alloc (.cells #[.slice none 0 0] 28)) := (Below.refl _ w).alloc (Nat.le_refl _) _
  refine wpIn_rangeFunc_ownG hro h1 (gf := 55) (lb := #[.pointer (some ⟨Bv, 0, none⟩)]) rfl h7 (enters_of Try.func55 (by kernel_rfl) rfl)
    (values_stops F (n - 1) h7 hro (by omega) Bv w.heap.size a cap zs hbytes _ (by simp; omega) (by simp) ((hB0.cell (p := ⟨Bv, 0, none⟩) hBv).trans hc) (hI.below hB0)) belowK_t (belowK_b (by simp)) (Below.refl _ _) (fun _ => rfl)
    (fun pre W => (∃ v, Boxed W w.heap.size 28 v ∧ W.ownsRow w.heap.size 3 1 v pre.length (pre.map (Value.int .i64)) ∧ (v = .slice none 0 0 ↔ pre = [])) ∧ Below w.heap.size w W)
    (fun _ _ _ => False)
    (OwnFrom.and (Own.from (holdsRow_own w.heap.size w.heap.size 28 3 1 (fun pre => pre.length) (fun pre => pre.map (Value.int .i64)) (fun pre v => v = .slice none 0 0 ↔ pre = [])) _) (ownFrom_below (Nat.le_refl _) (by simp)))
    (fun _ _ _ _ _ hs _ _ => hs)
    ⟨⟨_, bO, World.ownsRow_nil _ _ _ _, by simp⟩, hB0⟩
    (fun x => { tmps := #[.slice none 0 0, .func (.func 55) #[] #[.pointer (some ⟨Bv, 0, none⟩)], .pointer (some ⟨w.heap.size, 0, none⟩), undef, .slice none 0 0, .int .i64 x, .func (.func 55) #[] #[.pointer (some ⟨Bv, 0, none⟩)], .int .i64 x, undef, undef, undef, undef, undef], defers := [] }) ?assign ?body ?done ?stop
  case assign =>
    intro l x W K hK
    gi_wp2
    exact hK
  case body =>
    rintro l pre x W ⟨⟨v, hv, hrow, hnil⟩, hB⟩ hlt
    have hc := hv.cell
    gi_wp2_with (gi_at_builtin; refine wpListIn_append_own _ rfl _ _ 28 rfl w.heap.size 3 i0 (.int .i64 0) 1 8 Try.underlying28 hi hz0 hz1 hz2 rfl (by decide) _ _ _ rfl (hrow.alloc _) ⟨W.heap.size, 0, none⟩ 1 1 [.int .i64 x] rfl rfl (cell_one_new _ _ _) (by simp [Value.oneCell']) (by unfold maxLen; omega) (by omega) (by have := hB.size; simp; omega) ?_; intro v' w1 hown' hgrow _; obtain ⟨g', cap', rfl⟩ := ownsRow_succ hown'; obtain ⟨hv1, hv2, hr2, hk2, hb2⟩ := hv.appended (by decide) hrow hB.size (Nat.le_refl _) hown' hgrow; have hc1 := hv1.cell; have hf1 := hv1.frozen)
    exact ⟨hk2.from _, hb2, ⟨_, hv2, by simpa using hr2, by simp⟩, hB.trans hb2⟩
  case done =>
    rintro D ys W hD rfl ⟨⟨v, hv, hrow, hnil⟩, hB⟩ hK
    have hc := hv.cell
    gi_wp2
    refine ⟨by simp, .inl ⟨_, _, rfl, run_takeDeferred hK, ?_⟩⟩
    exact ⟨_, results_tmp rfl _ _ _, v, rfl, ownsRow_putObj hrow _ hK rfl, hnil, hB.trans (belowK_b (w := w) (Nat.le_refl _) W D _ _ (by simp at hD; omega) hK rfl rfl)⟩
  case stop =>
    rintro D c pre W _ _ h _
    exact h.elim
end Go.Proofs.Yteglefnfnkgpcaa
namespace Go.Proofs
open Go.Shelf
def Try.lays189_ren : Go.Shelf.Ren := ⟨fun | 189 => 54 | 125 => 69 | 257 => 68 | 128 => 85 | 129 => 86 | 294 => 77 | 295 => 78 | 296 => 79 | 297 => 80 | 298 => 81 | 299 => 82 | 216 => 72 | 300 => 83 | 301 => 84 | 328 => 88 | 329 => 89 | 330 => 90 | 331 => 91 | 332 => 92 | 215 => 87 | 343 => 93 | n => n, fun | 28 => 28 | 3 => 3 | 46 => 112 | 0 => 0 | 51 => 131 | 53 => 133 | 4 => 4 | 183 => 125 | 182 => 124 | 131 => 74 | 5 => 5 | 9 => 9 | 218 => 134 | 222 => 138 | 228 => 140 | 229 => 141 | n => n, fun | n => n⟩
theorem Try.lays189 : Go.Proofs.Lays.n189 Try.prog Try.lays189_ren := {
  mixed := by kernel_rfl
  f125 := Try.func69.trans (congrArg some (by kernel_rfl))
  f128 := Try.func85.trans (congrArg some (by kernel_rfl))
  f129 := Try.func86.trans (congrArg some (by kernel_rfl))
  f189 := Try.func54.trans (congrArg some (by kernel_rfl))
  f215 := Try.func87.trans (congrArg some (by kernel_rfl))
  f216 := Try.func72.trans (congrArg some (by kernel_rfl))
  f257 := Try.func68.trans (congrArg some (by kernel_rfl))
  f294 := Try.func77.trans (congrArg some (by kernel_rfl))
  f295 := Try.func78.trans (congrArg some (by kernel_rfl))
  f296 := Try.func79.trans (congrArg some (by kernel_rfl))
  f297 := Try.func80.trans (congrArg some (by kernel_rfl))
  f298 := Try.func81.trans (congrArg some (by kernel_rfl))
  f299 := Try.func82.trans (congrArg some (by kernel_rfl))
  f300 := Try.func83.trans (congrArg some (by kernel_rfl))
  f301 := Try.func84.trans (congrArg some (by kernel_rfl))
  f328 := Try.func88.trans (congrArg some (by kernel_rfl))
  f329 := Try.func89.trans (congrArg some (by kernel_rfl))
  f330 := Try.func90.trans (congrArg some (by kernel_rfl))
  f331 := Try.func91.trans (congrArg some (by kernel_rfl))
  f332 := Try.func92.trans (congrArg some (by kernel_rfl))
  f343 := Try.func93.trans (congrArg some (by kernel_rfl))
  t0 := Try.underlying0
  a0 := Try.isAgg0
  z0 := Try.sizeOf0
  v0 := Try.zeroValue0
  t3 := Try.underlying3
  a3 := Try.isAgg3
  z3 := Try.sizeOf3
  v3 := Try.zeroValue3
  t4 := Try.underlying4
  a4 := Try.isAgg4
  z4 := Try.sizeOf4
  v4 := Try.zeroValue4
  t5 := Try.underlying5
  a5 := Try.isAgg5
  z5 := Try.sizeOf5
  v5 := Try.zeroValue5
  t9 := Try.underlying9
  a9 := Try.isAgg9
  z9 := Try.sizeOf9
  v9 := Try.zeroValue9
  t28 := Try.underlying28
  a28 := Try.isAgg28
  z28 := Try.sizeOf28
  v28 := Try.zeroValue28
  t46 := Try.underlying112
  a46 := Try.isAgg112
  z46 := Try.sizeOf112
  v46 := Try.zeroValue112
  t51 := Try.underlying131
  a51 := Try.isAgg131
  z51 := Try.sizeOf131
  v51 := Try.zeroValue131
  t53 := Try.underlying133
  a53 := Try.isAgg133
  z53 := Try.sizeOf133
  v53 := Try.zeroValue133
  t131 := Try.underlying74
  a131 := Try.isAgg74
  z131 := Try.sizeOf74
  v131 := Try.zeroValue74
  t182 := Try.underlying124
  a182 := Try.isAgg124
  z182 := Try.sizeOf124
  v182 := Try.zeroValue124
  t183 := Try.underlying125
  a183 := Try.isAgg125
  z183 := Try.sizeOf125
  v183 := Try.zeroValue125
  t218 := Try.underlying134
  a218 := Try.isAgg134
  z218 := Try.sizeOf134
  v218 := Try.zeroValue134
  t222 := Try.underlying138
  a222 := Try.isAgg138
  z222 := Try.sizeOf138
  v222 := Try.zeroValue138
  t228 := Try.underlying140
  a228 := Try.isAgg140
  z228 := Try.sizeOf140
  v228 := Try.zeroValue140
  t229 := Try.underlying141
  a229 := Try.isAgg141
  z229 := Try.sizeOf141
  v229 := Try.zeroValue141 }
open Go.Sort Go.RowKit in
theorem Try.slices_Sort_int (blk off cap : Nat) (zs : List Int) (w : World) (hH : Holds (Value.int .i64) w blk off zs.toArray) (hblk : blk < w.heap.size) (hsz : zs.length < 4611686018427387904) :
    Calls Try.prog 54 #[.slice (some ⟨blk, off, none⟩) zs.length cap] w fun e w' =>
      e = .returned (.tuple #[]) ∧ ∃ n os, w' = grow (putRow (Value.int .i64) (Sort.ahead w n) blk off (zs.mergeSort fun x y => decide (x ≤ y)).toArray) os := Any.slices_Sort_int Try.lays189 blk off cap zs w hH hblk hsz
open Go.RowKit Go.Sort in
theorem Try.slices_Sort_int_none (p : Option Addr) (cap : Nat) (w : World) :
    Calls Try.prog 54 #[.slice p 0 cap] w fun e w' => e = .returned (.tuple #[]) ∧ w' = w := Any.slices_Sort_int_none Try.lays189 p cap w
end Go.Proofs
namespace Go.Proofs.Yteglefnfnkgpcaa
open Go.RowKit Go.Shelf

theorem Keeps.ofBelow' {w w' : World} (h : Below w.heap.size w w') : Keeps w w' (fun _ => False) := ⟨h.os, h.tape, h.output, h.size, fun k hk _ => h.block k hk⟩
theorem values_any (a : Option Addr) (len cap : Nat) (w : World) :
    Calls Try.prog 36 #[.slice a len cap] w fun e w' => e = .returned (.func (.func 55) #[] #[.pointer (some ⟨w.heap.size, 0, none⟩)]) ∧ w' = w.alloc (.cells #[.slice a len cap] 28) :=
  callsIn_wide.1 (values_in Fence.wide 1 trivial rfl a len cap w)
def ListPost (w : World) (zs : List Int) (e : Ending) (w' : World) : Prop := ∃ v, e = .returned v ∧ w'.ownsRow w.heap.size 3 1 v zs.length (zs.map (Value.int .i64)) ∧ (v = .slice none 0 0 ↔ zs = []) ∧ Keeps w w' (fun _ => False)

set_option maxHeartbeats 400000 in
theorem collect_any (Bv : Nat) (a : Option Addr) (cap : Nat) (zs : List Int) (hbytes : zs.length * 8 ≤ 140737488351232) (w : World) (hBv : Bv < w.heap.size)
    (hc : w.cell? ⟨Bv, 0, none⟩ = some (.slice a zs.length cap)) (hI : IntsBelow w.heap.size w a zs) :
    Calls Try.prog 53 #[.func (.func 55) #[] #[.pointer (some ⟨Bv, 0, none⟩)]] w fun e w' => ListPost w zs e w' := by
  have hA := callsIn_wide.1 (appendSeq_in Fence.wide 3 trivial trivial rfl (Nat.le_refl _) Bv a cap zs hbytes w hBv hc hI)
  clear hc hI
  go_enter Try.func53, Try.ntmps53
  go_wp2_with fail
  refine hA.mono ?_
  rintro e w1 ⟨v, rfl, h1, h2, h3⟩
  have hf : Hid (ListPost w zs (.returned v) w1) := ⟨v, rfl, h1, h2, Keeps.ofBelow' h3⟩
  clear hA h1 h2 h3
  go_wp2_with fail
  go_ret
  exact hf.out

/-- In rising order. -/
def rising (zs : List Int) : List Int := zs.mergeSort fun x y => decide (x ≤ y)
theorem rising_length (zs : List Int) : (rising zs).length = zs.length := List.length_mergeSort _

set_option maxHeartbeats 400000 in
theorem sorted_any (Bv : Nat) (a : Option Addr) (cap : Nat) (zs : List Int) (hbytes : zs.length * 8 ≤ 140737488351232) (w : World) (hBv : Bv < w.heap.size)
    (hc : w.cell? ⟨Bv, 0, none⟩ = some (.slice a zs.length cap)) (hI : IntsBelow w.heap.size w a zs) :
    Calls Try.prog 35 #[.func (.func 55) #[] #[.pointer (some ⟨Bv, 0, none⟩)]] w fun e w' => ListPost w (rising zs) e w' := by
  have hC := collect_any Bv a cap zs hbytes w hBv hc hI
  clear hc hI
  go_enter Try.func35, Try.ntmps35
  go_wp2_with fail
  refine hC.mono ?_
  rintro e w1 ⟨v, rfl, h1, h2, h3⟩
  clear hC
  have hS : Calls Try.prog 54 #[v] w1 fun e w' => e = .returned (.tuple #[]) ∧ ListPost w (rising zs) (.returned v) w' := by
    rcases h1.2 with ⟨rfl, hn⟩ | ⟨g, cap', cur, rfl, hb, hg, hcap, hml, hsz, ht⟩
    · have hz : zs = [] := List.eq_nil_of_length_eq_zero hn
      subst hz
      refine (Try.slices_Sort_int_none none 0 w1).mono ?_
      rintro e w2 ⟨rfl, rfl⟩
      exact ⟨rfl, _, rfl, by simpa [rising] using h1, by simp [rising], h3⟩
    · rw [Nat.mul_one] at ht
      refine (Try.slices_Sort_int g 0 cap' zs w1 (Go.holds_of_blockI hg ht) (heap_lt hg) (by omega)).mono ?_
      rintro e w2 ⟨rfl, n, os, rfl⟩
      refine ⟨rfl, _, rfl, ?_, ?_, h3.trans (Keeps.ofGrown (Go.grownBy_sortedI _)) (fun i hi e => by cases e; omega)⟩
      · have := Go.ownsRow_sortedI (n := n) (os := os) (ts := rising zs) (ss := zs) (rising_length zs) hb hg hcap hml (by simpa using hsz)
        rw [rising_length]
        exact this
      · rw [h2]
        constructor
        · intro e
          subst e
          simp [rising]
        · intro e
          have := rising_length zs
          rw [e] at this
          exact List.eq_nil_of_length_eq_zero this.symm
  clear h1 h2 h3
  go_wp2_with fail
  refine hS.mono ?_
  rintro e w2 ⟨rfl, hp⟩
  have hf := hp
  clear hS hp
  have HF : Hid (ListPost w (rising zs) (.returned v) w2) := hf
  clear hf
  go_wp2_with fail
  go_ret
  exact HF.out
end Go.Proofs.Yteglefnfnkgpcaa
/-
  Blocks are freed: the data.
-/
namespace Go.Proofs.Yteglefnfnkgpcaa
open Go.RowKit Go.Shelf

/-- The block z of s bytes is freed. -/
def AD.gone (d : AD) (z : Int) (s : Nat) : AD := { d with used := d.used - s, lv := upd d.lv z none, fm := upd d.fm (s : Int) (some (rising ((d.fm (s : Int)).getD [] ++ [z]))) }
def Gone (d : AD) (z : Int) (d' : AD) : Prop := ∃ s : Nat, d.lv z = some (s : Int) ∧ d' = d.gone z s
theorem rising_perm (zs : List Int) : (rising zs).Perm zs := List.mergeSort_perm zs _
def Gones : AD → List Int → AD → Prop
  | d, [], d' => d' = d
  | d, z :: r, d' => ∃ d1, Gone d z d1 ∧ Gones d1 r d'
theorem Gones.snoc : ∀ {d : AD} {zs : List Int} {d1 : AD} {z : Int} {d2 : AD}, Gones d zs d1 → Gone d1 z d2 → Gones d (zs ++ [z]) d2
  | _, [], _, _, _, h, g => by cases h; exact ⟨_, g, rfl⟩
  | _, _ :: _, _, _, _, ⟨dm, h1, h2⟩, g => ⟨dm, h1, h2.snoc g⟩
theorem Gone.lv {d d' : AD} {z : Int} (h : Gone d z d') : d'.lv = upd d.lv z none := by
  obtain ⟨s, _, rfl⟩ := h
  rfl
theorem Gone.L {d d' : AD} {z : Int} (h : Gone d z d') : d'.L = d.L := by
  obtain ⟨s, _, rfl⟩ := h
  rfl
theorem Gone.bs {d d' : AD} {z : Int} (h : Gone d z d') : d'.bs = d.bs := by
  obtain ⟨s, _, rfl⟩ := h
  rfl
theorem Gone.limit {d d' : AD} {z : Int} (h : Gone d z d') : d'.limit = d.limit := by
  obtain ⟨s, _, rfl⟩ := h
  rfl
theorem Gones.L : ∀ {d : AD} {zs : List Int} {d' : AD}, Gones d zs d' → d'.L = d.L
  | _, [], _, h => by cases h; rfl
  | _, _ :: _, _, ⟨_, h1, h2⟩ => h2.L.trans h1.L
theorem Gones.bs : ∀ {d : AD} {zs : List Int} {d' : AD}, Gones d zs d' → d'.bs = d.bs
  | _, [], _, h => by cases h; rfl
  | _, _ :: _, _, ⟨_, h1, h2⟩ => h2.bs.trans h1.bs
theorem Gones.limit : ∀ {d : AD} {zs : List Int} {d' : AD}, Gones d zs d' → d'.limit = d.limit
  | _, [], _, h => by cases h; rfl
  | _, _ :: _, _, ⟨_, h1, h2⟩ => h2.limit.trans h1.limit
theorem Gones.lv : ∀ {d : AD} {zs : List Int} {d' : AD}, Gones d zs d' → ∀ y, d'.lv y = if y ∈ zs then none else d.lv y
  | _, [], _, h, y => by cases h; simp
  | _, z :: r, _, ⟨_, h1, h2⟩, y => by
    rw [h2.lv y, h1.lv]
    by_cases e1 : y ∈ r
    · simp [e1]
    · by_cases e2 : y = z
      · subst e2
        simp [e1, upd]
      · simp [e1, e2, upd]

theorem liveSum_gone : ∀ {s : Nat} {L : List (Nat × Nat)} {e : Nat} {lv : Int → Option Int} {o n : Nat}, Tiles s L e → (o, n) ∈ L → (lv (o : Int)).isSome = true → liveSum L lv = liveSum L (upd lv (o : Int) none) + n
  | _, [], _, _, _, _, _, hm, _ => by cases hm
  | s, y :: r, e, lv, o, n, h, hm, hs => by
    rw [liveSum_cons, liveSum_cons]
    rcases List.mem_cons.1 hm with e1 | hm'
    · subst e1
      rw [upd_same, hs]
      have e2 : liveSum r (upd lv ((o : Nat) : Int) none) = liveSum r lv := liveSum_congr (fun x hx => by
        have h1 := tiles_mem h.2.2 hx
        have h2 := h.1
        have h3 := h.2.1
        rw [upd_other _ _ _ _ (by simp at h2 h3; omega)])
      rw [e2]
      simp
      omega
    · have h1 := tiles_mem h.2.2 hm'
      have h2 := h.1
      have h3 := h.2.1
      rw [upd_other _ _ _ _ (by simp at h1; omega), liveSum_gone h.2.2 hm' hs]
      omega

theorem AD.Fine.gone {d d' : AD} (F : d.Fine) {z : Int} (h : Gone d z d') : d'.Fine := by
  obtain ⟨s, hz, rfl⟩ := h
  obtain ⟨o, n, rfl, e2, hm⟩ := F.live z s hz
  have e3 : n = s := by omega
  subst e3
  have hsum := liveSum_gone (lv := d.lv) F.tiles hm (by rw [hz]; rfl)
  have hsm : d.used = liveSum d.L (upd d.lv (o : Int) none) + n := F.sum.trans hsum
  refine ⟨F.tiles, fun x t hx => ?_, F.most, F.lim, ?_, ?_, ?_⟩
  · have hx : upd d.lv (o : Int) none x = some t := hx
    by_cases e : x = (o : Int)
    · subst e
      rw [upd_same] at hx
      cases hx
    · rw [upd_other _ _ _ _ e] at hx
      exact F.live x t hx
  · show d.used - n ≤ d.limit
    have := F.use
    omega
  · show d.used - n = liveSum d.L (upd d.lv (o : Int) none)
    omega
  · show FreeOK d.L (upd d.lv (o : Int) none) (upd d.fm (n : Int) (some (rising ((d.fm (n : Int)).getD [] ++ [(o : Int)]))))
    have hp := rising_perm ((d.fm (n : Int)).getD [] ++ [(o : Int)])
    generalize rising ((d.fm (n : Int)).getD [] ++ [(o : Int)]) = ys at *
    have hold : ∀ y, d.lv y = none → upd d.lv (o : Int) none y = none := fun y hy => by
      by_cases e : y = (o : Int)
      · rw [e, upd_same]
      · rw [upd_other _ _ _ _ e]
        exact hy
    have hin : ∀ y, y ∈ (d.fm (n : Int)).getD [] → d.lv y = none ∧ ∃ t ∈ d.L, y = (t.1 : Int) ∧ (n : Int) = (t.2 : Int) := fun y hy => by
      cases e : d.fm (n : Int) with
      | none => rw [e] at hy; simp at hy
      | some xs => rw [e] at hy; exact F.free.mem _ xs e y hy
    have hnd : ((d.fm (n : Int)).getD []).Nodup := by
      cases e : d.fm (n : Int) with
      | none => simp
      | some xs => exact F.free.nodup _ xs e
    refine ⟨fun x xs hx => ?_, fun x xs hx => ?_, fun x xs hx y hy => ?_, fun y hy hl => ?_⟩
    · by_cases e : x = (n : Int)
      · subst e
        rw [upd_same] at hx
        cases hx
        refine hp.nodup_iff.2 ?_
        rw [List.nodup_append]
        refine ⟨hnd, by simp, fun a ha b hb e => ?_⟩
        simp at hb
        have := (hin a ha).1
        rw [e, hb, hz] at this
        cases this
      · rw [upd_other _ _ _ _ e] at hx
        exact F.free.nodup x xs hx
    · by_cases e : x = (n : Int)
      · exact ⟨(o, n), hm, e⟩
      · rw [upd_other _ _ _ _ e] at hx
        exact F.free.size x xs hx
    · by_cases e : x = (n : Int)
      · subst e
        rw [upd_same] at hx
        cases hx
        rcases List.mem_append.1 (hp.mem_iff.1 hy) with h1 | h1
        · obtain ⟨h2, t, h3, h4, h5⟩ := hin y h1
          exact ⟨hold y h2, t, h3, h4, h5⟩
        · simp at h1
          subst h1
          exact ⟨upd_same _ _ _, (o, n), hm, rfl, rfl⟩
      · rw [upd_other _ _ _ _ e] at hx
        obtain ⟨h2, t, h3⟩ := F.free.mem x xs hx y hy
        exact ⟨hold y h2, t, h3⟩
    · by_cases e0 : ((y.1 : Nat) : Int) = (o : Int)
      · have : y = (o, n) := tiles_unique F.tiles hy hm (by simp; omega)
        subst this
        refine ⟨ys, upd_same _ _ _, hp.mem_iff.2 (by simp)⟩
      · rw [upd_other _ _ _ _ e0] at hl
        obtain ⟨xs, h1, h2⟩ := F.free.all y hy hl
        by_cases e : ((y.2 : Nat) : Int) = (n : Int)
        · rw [e, upd_same]
          rw [e] at h1
          refine ⟨ys, rfl, hp.mem_iff.2 ?_⟩
          rw [h1]
          simp [h2]
        · rw [upd_other _ _ _ _ e]
          exact ⟨xs, h1, h2⟩
theorem AD.Fine.gones : ∀ {d : AD} {zs : List Int} {d' : AD}, d.Fine → Gones d zs d' → d'.Fine
  | _, [], _, F, h => by cases h; exact F
  | _, _ :: _, _, F, ⟨_, h1, h2⟩ => (F.gone h1).gones h2
end Go.Proofs.Yteglefnfnkgpcaa
namespace Go.Proofs.Yteglefnfnkgpcaa
open Go.RowKit Go.Shelf

/-- Struck from the live ones, not yet among the free ones. -/
def AD.struck (d : AD) (z : Int) (s : Nat) : AD := { d with used := d.used - s, lv := upd d.lv z none }
theorem AD.struck_freed (d : AD) (z : Int) (s : Nat) : (d.struck z s).freed (s : Int) (rising ((d.fm (s : Int)).getD [] ++ [z])) = d.gone z s := rfl

theorem ArenaAt.struck {w w1 : World} {p : Nat} {c : AR} {d : AD} (h : ArenaAt w p c d) {z : Int} {s : Nat} (hs : s ≤ d.used) {nl : Nat} (k1 : Keeps w w1 (fun i => i = c.bl)) (hl : MapTo Try.prog cInt w1 c.bl nl (upd d.lv z none)) :
    ArenaAt (w1.setCell ⟨p, 1, none⟩ (.int .i64 ((d.used : Int) - (s : Int)))) p { c with nl := nl } (d.struck z s) ∧ Keeps w (w1.setCell ⟨p, 1, none⟩ (.int .i64 ((d.used : Int) - (s : Int)))) (c.foot p) ∧
      w1.cell? ⟨p, 1, none⟩ = some (.int .i64 (d.used : Int)) ∧ w1.frozen? ⟨p, 1, none⟩ = false := by
  have hp1 := (k1.block p (heap_lt h.hp) h.p_bl).trans h.hp
  have kS : Keeps w1 (w1.setCell ⟨p, 1, none⟩ (.int .i64 ((d.used : Int) - (s : Int)))) (fun k => k = p) := (Keeps.refl w1 (fun k => k = p)).setCell ⟨p, 1, none⟩ (fun _ => rfl) _
  refine ⟨⟨?_, ?_, ?_, ?_, ?_, h.hlf, ?_⟩, ?_, by simp [World.cell?, hp1], by simp [World.frozen?, hp1]⟩
  · have hlt := heap_lt hp1
    have hv := (Array.getElem?_eq_some_iff.1 hp1).2
    have e : ((d.used : Int) - (s : Int)) = ((d.used - s : Nat) : Int) := by omega
    simp only [World.setCell, Array.getElem?_modify]
    simp [hlt, hv, AD.struck, e]
  · exact (h.mem.keeps k1 (fun e => h.bl_b e.symm) (fun e => h.bl_g e.symm)).keeps kS h.p_b.symm h.p_g.symm
  · exact ownsRow_keeps (ownsRow_keeps h.beg k1 (fun k hk e => h.bl_v hk e.symm)) kS (fun k hk e => h.p_v hk e.symm)
  · exact hl.keeps kS h.p_bl.symm
  · exact (h.free.keeps k1 h.hlf.symm).keeps kS h.p_bf.symm
  · exact (h.heaps.keeps k1 (fun i hi e => (h.heap_ne hi).2.2.2.1 e)).keeps kS (fun i hi e => (h.heap_ne hi).1 e)
  · exact (k1.mono (S1 := c.foot p) (fun i _ e => Or.inr (Or.inr (Or.inr (Or.inl e))))).trans kS (fun i _ e => Or.inl e)

/-- leave, at what was just struck. -/
theorem leave_any {w : World} {p : Nat} {c : AR} {d : AD} (h : ArenaAt w p c d) (off : Int) (n : Nat) (hn : n ≤ 134217728) (hl : ∀ xs, d.fm (n : Int) = some xs → xs.length < 134217728) (hk : ∀ x, (d.fm x).isSome = true → x ∈ d.L.map (fun y => (y.2 : Int))) (hL : d.L.length ≤ 134217728) :
    Calls Try.prog 37 #[.pointer (some ⟨p, 0, none⟩), .int .i64 off, .int .i64 (n : Int)] w fun e w' => LeavePost w p c d off (n : Int) e w' := by
  have hf : fitsI (n : Int) := fitsI_mk (by omega) (by omega)
  cases hx : d.fm (n : Int) with
  | some xs => exact leave_old h off _ hf hx (hl xs hx)
  | none =>
    have ht := h.free.tight Try.underlying3 (d.L.map (fun y => (y.2 : Int))) (fun x _ e => hk x (by rw [← h.heaps.dom]; exact e))
    have h' : ArenaAt w p { c with nf := (d.L.map (fun y => (y.2 : Int))).length } d := { h with free := ht }
    exact (leave_new h' off _ hf hx (by simp; omega))

/-- Sorted, and none beside its like. -/
def goodAt (d : AD) (rs : List Int) (i : Nat) : Prop := (d.lv (at0 rs i)).isSome = true ∧ (0 < i → at0 rs i ≠ at0 rs (i - 1))
def allGood (d : AD) (rs : List Int) : Prop := ∀ i, i < rs.length → goodAt d rs i
theorem strict {d : AD} {rs : List Int} (hs : rs.Pairwise (· ≤ ·)) (hg : allGood d rs) {i j : Nat} (hij : i < j) (hj : j < rs.length) : at0 rs i < at0 rs j := by
  have hsl : ∀ a b, a < b → b < rs.length → at0 rs a ≤ at0 rs b := fun a b hab hb => by
    have := (List.pairwise_iff_getElem.1 hs) a b (by omega) hb hab
    simpa [at0, hb, show a < rs.length by omega] using this
  have h1 : at0 rs (j - 1) < at0 rs j := by
    have := hsl (j - 1) j (by omega) hj
    have := (hg j hj).2 (by omega)
    omega
  rcases Nat.lt_or_ge i (j - 1) with h | h
  · have := hsl i (j - 1) h (by omega)
    omega
  · rw [show i = j - 1 by omega]
    exact h1
theorem not_taken {d : AD} {rs : List Int} (hs : rs.Pairwise (· ≤ ·)) (hg : allGood d rs) {i : Nat} (hi : i < rs.length) : at0 rs i ∉ rs.take i := fun h => by
  obtain ⟨k, hk, e⟩ := List.getElem_of_mem h
  have hk' : k < i := by simp at hk; omega
  have h1 := strict hs hg hk' hi
  rw [List.getElem_take] at e
  have : at0 rs k = rs[k]'(by omega) := by simp [at0, show k < rs.length by omega]
  omega
end Go.Proofs.Yteglefnfnkgpcaa
namespace Go.Proofs.Yteglefnfnkgpcaa
open Go.RowKit Go.Shelf

theorem rising_sorted (zs : List Int) : (rising zs).Pairwise (· ≤ ·) := by
  have := List.pairwise_mergeSort (le := fun x y : Int => decide (x ≤ y)) (fun a b c h1 h2 => by simp at *; omega) (fun a b => by simp; omega) zs
  exact this.imp (fun h => by simpa using h)

def FreeRel (w1 : World) (p : Nat) (F : Nat → Prop) (d : AD) (rs : List Int) (i : Nat) (wr : World) : Prop :=
  ∃ d', Gones d (rs.take i) d' ∧ Arena wr p (fun k => F k ∨ w1.heap.size ≤ k) d' ∧ Keeps w1 wr F

theorem live_fits {d : AD} (F : d.Fine) {z : Int} {s : Int} (h : d.lv z = some s) : ∃ o n : Nat, z = o ∧ s = n ∧ 0 < n ∧ o + n ≤ 134217728 ∧ (o, n) ∈ d.L := by
  obtain ⟨o, n, e1, e2, hm⟩ := F.live z s h
  have := tiles_mem F.tiles hm
  have := F.most
  exact ⟨o, n, e1, e2, by simp at *; omega, by simp at *; omega, hm⟩

theorem free_step {w1 wr : World} {p : Nat} {F : Nat → Prop} {d : AD} {rs : List Int} {i : Nat} (hR : FreeRel w1 p F d rs i wr) (hF : d.Fine) (hi : i < rs.length) (hs : rs.Pairwise (· ≤ ·)) (hg : allGood d rs) :
    ∃ bl s u w2, wr.cell? ⟨p, 4, none⟩ = some (.map (some bl)) ∧ (Instr.lookup 69 (.map (some bl)) (.int .i64 (at0 rs i)) false).run Try.prog wr = .ok (.int .i64 ((s : Nat) : Int)) wr ∧
      (∀ ty, (Builtin.delete_ #[69, 3] ty #[.map (some bl), .int .i64 (at0 rs i)]).run Try.prog wr = .ok (.tuple #[]) w2) ∧ w2.cell? ⟨p, 1, none⟩ = some (.int .i64 ((u : Nat) : Int)) ∧ w2.frozen? ⟨p, 1, none⟩ = false ∧ s ≤ u ∧ u ≤ 134217728 ∧
      Calls Try.prog 37 #[.pointer (some ⟨p, 0, none⟩), .int .i64 (at0 rs i), .int .i64 (s : Int)] (w2.setCell ⟨p, 1, none⟩ (.int .i64 ((u : Int) - (s : Int)))) fun e w' => e = .returned (.tuple #[]) ∧ FreeRel w1 p F d rs (i + 1) w' := by
  obtain ⟨d', hG, ⟨c, h, hfo⟩, k0⟩ := hR
  have hF' := hF.gones hG
  obtain ⟨s0, hs0⟩ := Option.isSome_iff_exists.1 (hg i hi).1
  have hlv : d'.lv (at0 rs i) = some s0 := by
    rw [hG.lv, if_neg (not_taken hs hg hi)]
    exact hs0
  obtain ⟨o, s, ez, es, hpos, hmax, hm⟩ := live_fits hF' hlv
  rw [ez] at hlv ⊢
  subst es
  have hfit : fitsI (o : Int) := fitsI_mk (by omega) (by omega)
  have hlk := look_int (w := wr) Try.underlying3 Try.underlying69 (Try.zeroI wr) h.live hfit
  rw [hlv] at hlk
  obtain ⟨w2, hdel, hl2, k2⟩ := h.live.strike Try.underlying3 Try.underlying69 hfit
  have hsum := liveSum_gone (lv := d'.lv) hF'.tiles hm (by rw [hlv]; rfl)
  have hsu : s ≤ d'.used := by have := hF'.sum; omega
  have hu : d'.used ≤ 134217728 := by have := hF'.use; have := hF'.lim; omega
  obtain ⟨h3, k3, c1, f1⟩ := h.struck hsu k2 hl2
  have hL : d'.L.length ≤ 134217728 := by have := tiles_length hF'.tiles; have := hF'.most; omega
  refine ⟨c.bl, s, d'.used, w2, h.cell4, hlk, hdel, c1, f1, hsu, hu, ?_⟩
  refine (leave_any h3 (o : Int) s (by omega) (fun xs hx => ?_) (fun x hx => ?_) hL).mono ?_
  · have hx : d'.fm (s : Int) = some xs := hx
    have hnd := hF'.free.nodup _ xs hx
    have := length_le_of_subset hnd (l := d'.begins) (fun z hz => by
      obtain ⟨_, y, hy, e, _⟩ := hF'.free.mem _ xs hx z hz
      exact List.mem_map.2 ⟨y, hy, e.symm⟩)
    rw [AD.begins_length] at this
    have h16 := tiles_length hF'.tiles
    have := hF'.most
    omega
  · obtain ⟨xs, hx⟩ := Option.isSome_iff_exists.1 hx
    obtain ⟨y, hy, e⟩ := hF'.free.size x xs hx
    exact List.mem_map.2 ⟨y, hy, e.symm⟩
  · rintro e w' ⟨rfl, c', h4, k4, f4⟩
    have hg1 : Gone d' (at0 rs i) (d'.gone (o : Int) s) := by
      rw [ez]
      exact ⟨s, hlv, rfl⟩
    have hsz := k0.size
    have hsz2 := k3.size
    refine ⟨rfl, d'.gone (o : Int) s, ?_, ⟨c', h4 _ (rising_perm _), fun k hk => ?_⟩, ?_⟩
    · rw [List.take_succ_eq_append_getElem hi]
      have e1 : rs[i] = at0 rs i := by simp [at0, hi]
      rw [e1]
      exact hG.snoc hg1
    · rcases f4 k hk with e | e
      · exact hfo k e
      · exact Or.inr (by omega)
    · have hin : ∀ j, j < w1.heap.size → c.foot p j → F j := fun j hj e => by
        rcases hfo j e with e | e
        · exact e
        · omega
      exact (k0.trans k3 (fun j hj e => hin j hj e)).trans k4 (fun j hj e => hin j hj e)
end Go.Proofs.Yteglefnfnkgpcaa
