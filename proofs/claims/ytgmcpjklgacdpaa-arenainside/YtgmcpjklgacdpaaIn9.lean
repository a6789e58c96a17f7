import Derived.Shelf.Strings.Builder1
import Derived.Shelf.Strings.Builder2
import Derived.Shelf.Strings.OnBuilder
import Derived.Shelf.Sort.Plain
import Derived.Shelf.Slices.In.SortNone
import Derived.Test.YtgmcpjklgacdpaaProg
import Derived.Sort.OwnSortedInts
import Derived.Test.YtgmcpjklgacdpaaIn8
namespace Go.Proofs.Ytgmcpjklgacdpaa
open Go.RowKit Go.Shelf

attribute [local go_sem] Oper.semAt_some

set_option maxRecDepth 100000 in
set_option maxHeartbeats 1000000 in
theorem vals_none (F : Fence) (n : Nat) (h7 : F.fn 60) (hro : F.round = none) (l Bs : Nat) (a : Option Addr) (cap : Nat) (J : List Int → World → Prop) (W : World) (hBs : W.cell? ⟨Bs, 0, none⟩ = some (.slice a 0 cap)) (h0 : J [] W) :
    CallsIn F n Try.prog 60 #[.func (.yield l) #[] #[], .pointer (some ⟨Bs, 0, none⟩)] W fun e W' => (∃ v, e = .returned v) ∧ J [] W' := by
  refine callsIn_of_wp Try.func60 rfl h7 ?_ hro
  simp only [Try.ntmps60, List.size_toArray, List.length_cons, List.length_nil, Nat.reduceAdd, Nat.reduceSub, Array.replicate_succ, Array.replicate_zero, List.push_toArray, List.append_toArray, List.nil_append, List.cons_append]
  gi_wp2
  gi_loopw [7] (fun i wr => i = .int .i64 0 ∧ J [] wr) (fun _ _ => 0)
  case atStart => exact ⟨rfl, h0⟩
  case round =>
    obtain ⟨rfl, hJs⟩ := hrel
    gi_wp2
    go_end0
    exact ⟨⟨_, rfl⟩, hJs⟩

/-- The slice a holds zs, in a block below n₀. -/
def IntsBelow (n₀ : Nat) (W : World) (a : Option Addr) (zs : List Int) : Prop := zs = [] ∨ ∃ b off, a = some ⟨b, off, none⟩ ∧ b < n₀ ∧ ∀ j, j < zs.length → W.cell? ⟨b, off + j, none⟩ = some (.int .i64 (zs[j]?.getD 0))
theorem IntsBelow.below {n₀ : Nat} {A B : World} (h : Below n₀ A B) {a : Option Addr} {zs : List Int} : IntsBelow n₀ A a zs → IntsBelow n₀ B a zs
  | .inl e => .inl e
  | .inr ⟨b, off, e, hb, hc⟩ => .inr ⟨b, off, e, hb, fun j hj => (h.cell (p := ⟨b, off + j, none⟩) hb).trans (hc j hj)⟩
theorem upto_take (zs : List Int) {k : Nat} (hk : k ≤ zs.length) : upto zs k = zs.take k := by
  apply List.ext_getElem
  · simp [upto, hk]
  · intro i h1 h2
    have : i < zs.length := by simp [upto] at h1; omega
    simp [upto, this]

theorem values_stops (F : Fence) (n : Nat) (h7 : F.fn 60) (hro : F.round = none) (hn : 1 ≤ n) (Bs n₀ : Nat) (a : Option Addr) (cap : Nat) (zs : List Int) (hreach : zs.length * 8 ≤ 140737488351232) (w : World) (hBs : Bs < w.heap.size) (hn₀ : n₀ ≤ w.heap.size)
    (hc : w.cell? ⟨Bs, 0, none⟩ = some (.slice a zs.length cap)) (hI : IntsBelow n₀ w a zs) :
    SeqStopsK F n Try.prog 60 #[.pointer (some ⟨Bs, 0, none⟩)] (fun x : Int => #[Value.int .i64 x]) (Below n₀) (fun ys => ys = zs) (fun pre => pre <+: zs) zs.length w := fun l J Jx W hW _ _ hY h0 => by
  have hc' := (hW.cell (p := ⟨Bs, 0, none⟩) hBs).trans hc
  rcases hI.below (hW.mono hn₀) with rfl | ⟨b, off, rfl, hb, hcs⟩
  · exact (vals_none F n h7 hro l Bs a cap J W hc' h0).mono fun e W' ⟨he, hj⟩ => ⟨he, .inl ⟨_, rfl, hj⟩⟩
  · refine (vals_some F n h7 hro hn l Bs n₀ b off zs.length cap zs hreach hb J Jx hY W hc' hcs h0).mono ?_
    rintro e W' ⟨he, ⟨ys, rfl, hj⟩ | ⟨pre, ⟨k, hk, rfl⟩, hj⟩⟩
    · exact ⟨he, .inl ⟨_, upto_all zs, hj⟩⟩
    · exact ⟨he, .inr ⟨_, by rw [upto_take zs hk]; exact List.take_prefix _ _, hj⟩⟩

theorem Try.infoI2 : (Try.prog.info? 3).map (fun i => (i.zero, i.size, i.bytes)) = some (some (.int .i64 0), 1, 8) := by kernel_rfl

set_option maxRecDepth 100000 in
set_option maxHeartbeats 2000000 in
/-- AppendSeq(nil, Values(..)): a new list of the same. -/
theorem appendSeq_in (F : Fence) (n : Nat) (h3 : F.fn 77) (h7 : F.fn 60) (hro : F.round = none) (hn : 3 ≤ n) (Bv : Nat) (a : Option Addr) (cap : Nat) (zs : List Int) (hbytes : zs.length * 8 ≤ 140737488351232) (w : World) (hBv : Bv < w.heap.size)
    (hc : w.cell? ⟨Bv, 0, none⟩ = some (.slice a zs.length cap)) (hI : IntsBelow w.heap.size w a zs) :
    CallsIn F n Try.prog 77 #[.slice none 0 0, .func (.func 60) #[] #[.pointer (some ⟨Bv, 0, none⟩)]] w fun e W' => ∃ v, e = .returned v ∧ W'.ownsRow w.heap.size 3 1 v zs.length (zs.map (Value.int .i64)) ∧ (v = .slice none 0 0 ↔ zs = []) ∧ Below w.heap.size w W' := by
  have h1 : 1 ≤ n := by omega
  obtain ⟨i0, hi, hz0, hz1, hz2⟩ := info_parts Try.infoI2
  refine callsIn_of_wp_marks Try.func77 rfl h3 ?_ hro
  simp only [Try.ntmps77, List.size_toArray, List.length_cons, List.length_nil, Nat.reduceAdd, Nat.reduceSub, Array.replicate_succ, Array.replicate_zero, List.push_toArray, List.append_toArray, List.nil_append, List.cons_append]
  gi_wp2_with fail
  have bO := Boxed.new w 33 (.slice none 0 0)
  have hB0 : Below w.heap.size w (w.alloc (.cells #[.slice none 0 0] 33)) := (Below.refl _ w).alloc (Nat.le_refl _) _
  refine wpIn_rangeFunc_ownG hro h1 (gf := 60) (lb := #[.pointer (some ⟨Bv, 0, none⟩)]) rfl h7 (enters_of Try.func60 (by kernel_rfl) rfl)
    (values_stops F (n - 1) h7 hro (by omega) Bv w.heap.size a cap zs hbytes _ (by simp; omega) (by simp) ((hB0.cell (p := ⟨Bv, 0, none⟩) hBv).trans hc) (hI.below hB0)) belowK_t (belowK_b (by simp)) (Below.refl _ _) (fun _ => rfl)
    (fun pre W => (∃ v, Boxed W w.heap.size 33 v ∧ W.ownsRow w.heap.size 3 1 v pre.length (pre.map (Value.int .i64)) ∧ (v = .slice none 0 0 ↔ pre = [])) ∧ Below w.heap.size w W)
    (fun _ _ _ => False)
    (OwnFrom.and (Own.from (holdsRow_own w.heap.size w.heap.size 33 3 1 (fun pre => pre.length) (fun pre => pre.map (Value.int .i64)) (fun pre v => v = .slice none 0 0 ↔ pre = [])) _) (ownFrom_below (Nat.le_refl _) (by simp)))
    (fun _ _ _ _ _ hs _ _ => hs)
    ⟨⟨_, bO, World.ownsRow_nil _ _ _ _, by simp⟩, hB0⟩
    (fun x => { tmps := #[.slice none 0 0, .func (.func 60) #[] #[.pointer (some ⟨Bv, 0, none⟩)], .pointer (some ⟨w.heap.size, 0, none⟩), undef, .slice none 0 0, .int .i64 x, .func (.func 60) #[] #[.pointer (some ⟨Bv, 0, none⟩)], .int .i64 x, undef, undef, undef, undef, undef], defers := [] }) ?assign ?body ?done ?stop
  case assign =>
    intro l x W K hK
    gi_wp2
    exact hK
  case body =>
    rintro l pre x W ⟨⟨v, hv, hrow, hnil⟩, hB⟩ hlt
    have hc := hv.cell
    gi_wp2_with (gi_at_builtin; refine wpListIn_append_own _ rfl _ _ 33 rfl w.heap.size 3 i0 (.int .i64 0) 1 8 Try.underlying33 hi hz0 hz1 hz2 rfl (by decide) _ _ _ rfl (hrow.alloc _) ⟨W.heap.size, 0, none⟩ 1 1 [.int .i64 x] rfl rfl (cell_one_new _ _ _) (by simp [Value.oneCell']) (by unfold maxLen; omega) (by omega) (by have := hB.size; simp; omega) ?_; intro v' w1 hown' hgrow _; obtain ⟨g', cap', rfl⟩ := ownsRow_succ hown'; obtain ⟨hv1, hv2, hr2, hk2, hb2⟩ := hv.appended (by decide) hrow hB.size (Nat.le_refl _) hown' hgrow; have hc1 := hv1.cell; have hf1 := hv1.frozen)
    exact ⟨hk2.from _, hb2, ⟨_, hv2, by simpa using hr2, by simp⟩, hB.trans hb2⟩
  case done =>
    rintro D ys W hD rfl ⟨⟨v, hv, hrow, hnil⟩, hB⟩ hK
    have hc := hv.cell
    gi_wp2
    refine ⟨by simp, .inl ⟨_, _, rfl, run_takeDeferred hK, ?_⟩⟩
    exact ⟨_, results_tmp rfl _ _ _, v, rfl, ownsRow_putObj hrow _ hK rfl, hnil, hB.trans (belowK_b (w := w) (Nat.le_refl _) W D _ _ (by simp at hD; omega) hK rfl rfl)⟩
  case stop =>
    rintro D c pre W _ _ h _
    exact h.elim
end Go.Proofs.Ytgmcpjklgacdpaa
namespace Go.Proofs
open Go.Shelf
def Try.lays189_ren : Go.Shelf.Ren := ⟨fun | 189 => 59 | 125 => 79 | 257 => 78 | 128 => 97 | 129 => 98 | 294 => 89 | 295 => 90 | 296 => 91 | 297 => 92 | 298 => 93 | 299 => 94 | 216 => 85 | 300 => 95 | 301 => 96 | 328 => 105 | 329 => 106 | 330 => 107 | 331 => 108 | 332 => 109 | 215 => 102 | 343 => 110 | n => n, fun | 28 => 33 | 3 => 3 | 46 => 132 | 0 => 0 | 51 => 149 | 53 => 22 | 4 => 4 | 183 => 143 | 182 => 142 | 131 => 91 | 5 => 5 | 9 => 9 | 218 => 157 | 222 => 161 | 228 => 163 | 229 => 164 | n => n, fun | n => n⟩
theorem Try.lays189 : Go.Proofs.Lays.n189 Try.prog Try.lays189_ren := {
  mixed := by kernel_rfl
  f125 := Try.func79.trans (congrArg some (by kernel_rfl))
  f128 := Try.func97.trans (congrArg some (by kernel_rfl))
  f129 := Try.func98.trans (congrArg some (by kernel_rfl))
  f189 := Try.func59.trans (congrArg some (by kernel_rfl))
  f215 := Try.func102.trans (congrArg some (by kernel_rfl))
  f216 := Try.func85.trans (congrArg some (by kernel_rfl))
  f257 := Try.func78.trans (congrArg some (by kernel_rfl))
  f294 := Try.func89.trans (congrArg some (by kernel_rfl))
  f295 := Try.func90.trans (congrArg some (by kernel_rfl))
  f296 := Try.func91.trans (congrArg some (by kernel_rfl))
  f297 := Try.func92.trans (congrArg some (by kernel_rfl))
  f298 := Try.func93.trans (congrArg some (by kernel_rfl))
  f299 := Try.func94.trans (congrArg some (by kernel_rfl))
  f300 := Try.func95.trans (congrArg some (by kernel_rfl))
  f301 := Try.func96.trans (congrArg some (by kernel_rfl))
  f328 := Try.func105.trans (congrArg some (by kernel_rfl))
  f329 := Try.func106.trans (congrArg some (by kernel_rfl))
  f330 := Try.func107.trans (congrArg some (by kernel_rfl))
  f331 := Try.func108.trans (congrArg some (by kernel_rfl))
  f332 := Try.func109.trans (congrArg some (by kernel_rfl))
  f343 := Try.func110.trans (congrArg some (by kernel_rfl))
  t0 := Try.underlying0
  a0 := Try.isAgg0
  z0 := Try.sizeOf0
  v0 := Try.zeroValue0
  t3 := Try.underlying3
  a3 := Try.isAgg3
  z3 := Try.sizeOf3
  v3 := Try.zeroValue3
  t4 := Try.underlying4
  a4 := Try.isAgg4
  z4 := Try.sizeOf4
  v4 := Try.zeroValue4
  t5 := Try.underlying5
  a5 := Try.isAgg5
  z5 := Try.sizeOf5
  v5 := Try.zeroValue5
  t9 := Try.underlying9
  a9 := Try.isAgg9
  z9 := Try.sizeOf9
  v9 := Try.zeroValue9
  t28 := Try.underlying33
  a28 := Try.isAgg33
  z28 := Try.sizeOf33
  v28 := Try.zeroValue33
  t46 := Try.underlying132
  a46 := Try.isAgg132
  z46 := Try.sizeOf132
  v46 := Try.zeroValue132
  t51 := Try.underlying149
  a51 := Try.isAgg149
  z51 := Try.sizeOf149
  v51 := Try.zeroValue149
  t53 := Try.underlying22
  a53 := Try.isAgg22
  z53 := Try.sizeOf22
  v53 := Try.zeroValue22
  t131 := Try.underlying91
  a131 := Try.isAgg91
  z131 := Try.sizeOf91
  v131 := Try.zeroValue91
  t182 := Try.underlying142
  a182 := Try.isAgg142
  z182 := Try.sizeOf142
  v182 := Try.zeroValue142
  t183 := Try.underlying143
  a183 := Try.isAgg143
  z183 := Try.sizeOf143
  v183 := Try.zeroValue143
  t218 := Try.underlying157
  a218 := Try.isAgg157
  z218 := Try.sizeOf157
  v218 := Try.zeroValue157
  t222 := Try.underlying161
  a222 := Try.isAgg161
  z222 := Try.sizeOf161
  v222 := Try.zeroValue161
  t228 := Try.underlying163
  a228 := Try.isAgg163
  z228 := Try.sizeOf163
  v228 := Try.zeroValue163
  t229 := Try.underlying164
  a229 := Try.isAgg164
  z229 := Try.sizeOf164
  v229 := Try.zeroValue164 }
open Go.Sort Go.RowKit in
theorem Try.slices_Sort_int (blk off cap : Nat) (zs : List Int) (w : World) (hH : Holds (Value.int .i64) w blk off zs.toArray) (hblk : blk < w.heap.size) (hsz : zs.length < 4611686018427387904) :
    Calls Try.prog 59 #[.slice (some ⟨blk, off, none⟩) zs.length cap] w fun e w' =>
      e = .returned (.tuple #[]) ∧ ∃ n os, w' = grow (putRow (Value.int .i64) (Sort.ahead w n) blk off (zs.mergeSort fun x y => decide (x ≤ y)).toArray) os := Any.slices_Sort_int Try.lays189 blk off cap zs w hH hblk hsz
open Go.RowKit Go.Sort in
theorem Try.slices_Sort_int_none (p : Option Addr) (cap : Nat) (w : World) :
    Calls Try.prog 59 #[.slice p 0 cap] w fun e w' => e = .returned (.tuple #[]) ∧ w' = w := Any.slices_Sort_int_none Try.lays189 p cap w
end Go.Proofs
namespace Go.Proofs.Ytgmcpjklgacdpaa
open Go.RowKit Go.Shelf

theorem Keeps.ofBelow' {w w' : World} (h : Below w.heap.size w w') : Keeps w w' (fun _ => False) := ⟨h.os, h.tape, h.output, h.size, fun k hk _ => h.block k hk⟩
theorem values_any (a : Option Addr) (len cap : Nat) (w : World) :
    Calls Try.prog 37 #[.slice a len cap] w fun e w' => e = .returned (.func (.func 60) #[] #[.pointer (some ⟨w.heap.size, 0, none⟩)]) ∧ w' = w.alloc (.cells #[.slice a len cap] 33) :=
  callsIn_wide.1 (values_in Fence.wide 1 trivial rfl a len cap w)
def ListPost (w : World) (zs : List Int) (e : Ending) (w' : World) : Prop := ∃ v, e = .returned v ∧ w'.ownsRow w.heap.size 3 1 v zs.length (zs.map (Value.int .i64)) ∧ (v = .slice none 0 0 ↔ zs = []) ∧ Keeps w w' (fun _ => False)

set_option maxHeartbeats 400000 in
theorem collect_any (Bv : Nat) (a : Option Addr) (cap : Nat) (zs : List Int) (hbytes : zs.length * 8 ≤ 140737488351232) (w : World) (hBv : Bv < w.heap.size)
    (hc : w.cell? ⟨Bv, 0, none⟩ = some (.slice a zs.length cap)) (hI : IntsBelow w.heap.size w a zs) :
    Calls Try.prog 58 #[.func (.func 60) #[] #[.pointer (some ⟨Bv, 0, none⟩)]] w fun e w' => ListPost w zs e w' := by
  have hA := callsIn_wide.1 (appendSeq_in Fence.wide 3 trivial trivial rfl (Nat.le_refl _) Bv a cap zs hbytes w hBv hc hI)
  clear hc hI
  go_enter Try.func58, Try.ntmps58
  go_wp2_with fail
  refine hA.mono ?_
  rintro e w1 ⟨v, rfl, h1, h2, h3⟩
  have hf : Hid (ListPost w zs (.returned v) w1) := ⟨v, rfl, h1, h2, Keeps.ofBelow' h3⟩
  clear hA h1 h2 h3
  go_wp2_with fail
  go_ret
  exact hf.out

/-- In rising order. -/
def rising (zs : List Int) : List Int := zs.mergeSort fun x y => decide (x ≤ y)
theorem rising_length (zs : List Int) : (rising zs).length = zs.length := List.length_mergeSort _

set_option maxHeartbeats 400000 in
theorem sorted_any (Bv : Nat) (a : Option Addr) (cap : Nat) (zs : List Int) (hbytes : zs.length * 8 ≤ 140737488351232) (w : World) (hBv : Bv < w.heap.size)
    (hc : w.cell? ⟨Bv, 0, none⟩ = some (.slice a zs.length cap)) (hI : IntsBelow w.heap.size w a zs) :
    Calls Try.prog 36 #[.func (.func 60) #[] #[.pointer (some ⟨Bv, 0, none⟩)]] w fun e w' => ListPost w (rising zs) e w' := by
  have hC := collect_any Bv a cap zs hbytes w hBv hc hI
  clear hc hI
  go_enter Try.func36, Try.ntmps36
  go_wp2_with fail
  refine hC.mono ?_
  rintro e w1 ⟨v, rfl, h1, h2, h3⟩
  clear hC
  have hS : Calls Try.prog 59 #[v] w1 fun e w' => e = .returned (.tuple #[]) ∧ ListPost w (rising zs) (.returned v) w' := by
    rcases h1.2 with ⟨rfl, hn⟩ | ⟨g, cap', cur, rfl, hb, hg, hcap, hml, hsz, ht⟩
    · have hz : zs = [] := List.eq_nil_of_length_eq_zero hn
      subst hz
      refine (Try.slices_Sort_int_none none 0 w1).mono ?_
      rintro e w2 ⟨rfl, rfl⟩
      exact ⟨rfl, _, rfl, by simpa [rising] using h1, by simp [rising], h3⟩
    · rw [Nat.mul_one] at ht
      refine (Try.slices_Sort_int g 0 cap' zs w1 (Go.holds_of_blockI hg ht) (heap_lt hg) (by omega)).mono ?_
      rintro e w2 ⟨rfl, n, os, rfl⟩
      refine ⟨rfl, _, rfl, ?_, ?_, h3.trans (Keeps.ofGrown (Go.grownBy_sortedI _)) (fun i hi e => by cases e; omega)⟩
      · have := Go.ownsRow_sortedI (n := n) (os := os) (ts := rising zs) (ss := zs) (rising_length zs) hb hg hcap hml (by simpa using hsz)
        rw [rising_length]
        exact this
      · rw [h2]
        constructor
        · intro e
          subst e
          simp [rising]
        · intro e
          have := rising_length zs
          rw [e] at this
          exact List.eq_nil_of_length_eq_zero this.symm
  clear h1 h2 h3
  go_wp2_with fail
  refine hS.mono ?_
  rintro e w2 ⟨rfl, hp⟩
  have hf := hp
  clear hS hp
  have HF : Hid (ListPost w (rising zs) (.returned v) w2) := hf
  clear hf
  go_wp2_with fail
  go_ret
  exact HF.out
end Go.Proofs.Ytgmcpjklgacdpaa
/-
  Blocks are freed: the data.
-/
namespace Go.Proofs.Ytgmcpjklgacdpaa
open Go.RowKit Go.Shelf

/-- The block z of s bytes is freed. -/
def AD.gone (d : AD) (z : Int) (s : Nat) : AD := { d with used := d.used - s, lv := upd d.lv z none, fm := upd d.fm (s : Int) (some (rising ((d.fm (s : Int)).getD [] ++ [z]))) }
def Gone (d : AD) (z : Int) (d' : AD) : Prop := ∃ s : Nat, d.lv z = some (s : Int) ∧ d' = d.gone z s
theorem rising_perm (zs : List Int) : (rising zs).Perm zs := List.mergeSort_perm zs _
def Gones : AD → List Int → AD → Prop
  | d, [], d' => d' = d
  | d, z :: r, d' => ∃ d1, Gone d z d1 ∧ Gones d1 r d'
theorem Gones.snoc : ∀ {d : AD} {zs : List Int} {d1 : AD} {z : Int} {d2 : AD}, Gones d zs d1 → Gone d1 z d2 → Gones d (zs ++ [z]) d2
  | _, [], _, _, _, h, g => by cases h; exact ⟨_, g, rfl⟩
  | _, _ :: _, _, _, _, ⟨dm, h1, h2⟩, g => ⟨dm, h1, h2.snoc g⟩
theorem Gone.lv {d d' : AD} {z : Int} (h : Gone d z d') : d'.lv = upd d.lv z none := by
  obtain ⟨s, _, rfl⟩ := h
  rfl
theorem Gone.L {d d' : AD} {z : Int} (h : Gone d z d') : d'.L = d.L := by
  obtain ⟨s, _, rfl⟩ := h
  rfl
theorem Gone.bs {d d' : AD} {z : Int} (h : Gone d z d') : d'.bs = d.bs := by
  obtain ⟨s, _, rfl⟩ := h
  rfl
theorem Gone.limit {d d' : AD} {z : Int} (h : Gone d z d') : d'.limit = d.limit := by
  obtain ⟨s, _, rfl⟩ := h
  rfl
theorem Gones.L : ∀ {d : AD} {zs : List Int} {d' : AD}, Gones d zs d' → d'.L = d.L
  | _, [], _, h => by cases h; rfl
  | _, _ :: _, _, ⟨_, h1, h2⟩ => h2.L.trans h1.L
theorem Gones.bs : ∀ {d : AD} {zs : List Int} {d' : AD}, Gones d zs d' → d'.bs = d.bs
  | _, [], _, h => by cases h; rfl
  | _, _ :: _, _, ⟨_, h1, h2⟩ => h2.bs.trans h1.bs
theorem Gones.limit : ∀ {d : AD} {zs : List Int} {d' : AD}, Gones d zs d' → d'.limit = d.limit
  | _, [], _, h => by cases h; rfl
  | _, _ :: _, _, ⟨_, h1, h2⟩ => h2.limit.trans h1.limit
theorem Gones.lv : ∀ {d : AD} {zs : List Int} {d' : AD}, Gones d zs d' → ∀ y, d'.lv y = if y ∈ zs then none else d.lv y
  | _, [], _, h, y => by cases h; simp
  | _, z :: r, _, ⟨_, h1, h2⟩, y => by
    rw [h2.lv y, h1.lv]
    by_cases e1 : y ∈ r
    · simp [e1]
    · by_cases e2 : y = z
      · subst e2
        simp [e1, upd]
      · simp [e1, e2, upd]

theorem liveSum_gone : ∀ {s : Nat} {L : List (Nat × Nat)} {e : Nat} {lv : Int → Option Int} {o n : Nat}, Tiles s L e → (o, n) ∈ L → (lv (o : Int)).isSome = true → liveSum L lv = liveSum L (upd lv (o : Int) none) + n
  | _, [], _, _, _, _, _, hm, _ => by cases hm
  | s, y :: r, e, lv, o, n, h, hm, hs => by
    rw [liveSum_cons, liveSum_cons]
    rcases List.mem_cons.1 hm with e1 | hm'
    · subst e1
      rw [upd_same, hs]
      have e2 : liveSum r (upd lv ((o : Nat) : Int) none) = liveSum r lv := liveSum_congr (fun x hx => by
        have h1 := tiles_mem h.2.2 hx
        have h2 := h.1
        have h3 := h.2.1
        rw [upd_other _ _ _ _ (by simp at h2 h3; omega)])
      rw [e2]
      simp
      omega
    · have h1 := tiles_mem h.2.2 hm'
      have h2 := h.1
      have h3 := h.2.1
      rw [upd_other _ _ _ _ (by simp at h1; omega), liveSum_gone h.2.2 hm' hs]
      omega

theorem AD.Fine.gone {d d' : AD} (F : d.Fine) {z : Int} (h : Gone d z d') : d'.Fine := by
  obtain ⟨s, hz, rfl⟩ := h
  obtain ⟨o, n, rfl, e2, hm⟩ := F.live z s hz
  have e3 : n = s := by omega
  subst e3
  have hsum := liveSum_gone (lv := d.lv) F.tiles hm (by rw [hz]; rfl)
  have hsm : d.used = liveSum d.L (upd d.lv (o : Int) none) + n := F.sum.trans hsum
  refine ⟨F.tiles, fun x t hx => ?_, F.most, F.lim, ?_, ?_, ?_⟩
  · have hx : upd d.lv (o : Int) none x = some t := hx
    by_cases e : x = (o : Int)
    · subst e
      rw [upd_same] at hx
      cases hx
    · rw [upd_other _ _ _ _ e] at hx
      exact F.live x t hx
  · show d.used - n ≤ d.limit
    have := F.use
    omega
  · show d.used - n = liveSum d.L (upd d.lv (o : Int) none)
    omega
  · show FreeOK d.L (upd d.lv (o : Int) none) (upd d.fm (n : Int) (some (rising ((d.fm (n : Int)).getD [] ++ [(o : Int)]))))
    have hp := rising_perm ((d.fm (n : Int)).getD [] ++ [(o : Int)])
    generalize rising ((d.fm (n : Int)).getD [] ++ [(o : Int)]) = ys at *
    have hold : ∀ y, d.lv y = none → upd d.lv (o : Int) none y = none := fun y hy => by
      by_cases e : y = (o : Int)
      · rw [e, upd_same]
      · rw [upd_other _ _ _ _ e]
        exact hy
    have hin : ∀ y, y ∈ (d.fm (n : Int)).getD [] → d.lv y = none ∧ ∃ t ∈ d.L, y = (t.1 : Int) ∧ (n : Int) = (t.2 : Int) := fun y hy => by
      cases e : d.fm (n : Int) with
      | none => rw [e] at hy; simp at hy
      | some xs => rw [e] at hy; exact F.free.mem _ xs e y hy
    have hnd : ((d.fm (n : Int)).getD []).Nodup := by
      cases e : d.fm (n : Int) with
      | none => simp
      | some xs => exact F.free.nodup _ xs e
    refine ⟨fun x xs hx => ?_, fun x xs hx => ?_, fun x xs hx y hy => ?_, fun y hy hl => ?_⟩
    · by_cases e : x = (n : Int)
      · subst e
        rw [upd_same] at hx
        cases hx
        refine hp.nodup_iff.2 ?_
        rw [List.nodup_append]
        refine ⟨hnd, by simp, fun a ha b hb e => ?_⟩
        simp at hb
        have := (hin a ha).1
        rw [e, hb, hz] at this
        cases this
      · rw [upd_other _ _ _ _ e] at hx
        exact F.free.nodup x xs hx
    · by_cases e : x = (n : Int)
      · exact ⟨(o, n), hm, e⟩
      · rw [upd_other _ _ _ _ e] at hx
        exact F.free.size x xs hx
    · by_cases e : x = (n : Int)
      · subst e
        rw [upd_same] at hx
        cases hx
        rcases List.mem_append.1 (hp.mem_iff.1 hy) with h1 | h1
        · obtain ⟨h2, t, h3, h4, h5⟩ := hin y h1
          exact ⟨hold y h2, t, h3, h4, h5⟩
        · simp at h1
          subst h1
          exact ⟨upd_same _ _ _, (o, n), hm, rfl, rfl⟩
      · rw [upd_other _ _ _ _ e] at hx
        obtain ⟨h2, t, h3⟩ := F.free.mem x xs hx y hy
        exact ⟨hold y h2, t, h3⟩
    · by_cases e0 : ((y.1 : Nat) : Int) = (o : Int)
      · have : y = (o, n) := tiles_unique F.tiles hy hm (by simp; omega)
        subst this
        refine ⟨ys, upd_same _ _ _, hp.mem_iff.2 (by simp)⟩
      · rw [upd_other _ _ _ _ e0] at hl
        obtain ⟨xs, h1, h2⟩ := F.free.all y hy hl
        by_cases e : ((y.2 : Nat) : Int) = (n : Int)
        · rw [e, upd_same]
          rw [e] at h1
          refine ⟨ys, rfl, hp.mem_iff.2 ?_⟩
          rw [h1]
          simp [h2]
        · rw [upd_other _ _ _ _ e]
          exact ⟨xs, h1, h2⟩
theorem AD.Fine.gones : ∀ {d : AD} {zs : List Int} {d' : AD}, d.Fine → Gones d zs d' → d'.Fine
  | _, [], _, F, h => by cases h; exact F
  | _, _ :: _, _, F, ⟨_, h1, h2⟩ => (F.gone h1).gones h2
end Go.Proofs.Ytgmcpjklgacdpaa
namespace Go.Proofs.Ytgmcpjklgacdpaa
open Go.RowKit Go.Shelf

/-- Struck from the live ones, not yet among the free ones. -/
def AD.struck (d : AD) (z : Int) (s : Nat) : AD := { d with used := d.used - s, lv := upd d.lv z none }
theorem AD.struck_freed (d : AD) (z : Int) (s : Nat) : (d.struck z s).freed (s : Int) (rising ((d.fm (s : Int)).getD [] ++ [z])) = d.gone z s := rfl

theorem ArenaAt.struck {w w1 : World} {p : Nat} {c : AR} {d : AD} (h : ArenaAt w p c d) {z : Int} {s : Nat} (hs : s ≤ d.used) {nl : Nat} (k1 : Keeps w w1 (fun i => i = c.bl)) (hl : MapTo Try.prog cInt w1 c.bl nl (upd d.lv z none)) :
    ArenaAt (w1.setCell ⟨p, 1, none⟩ (.int .i64 ((d.used : Int) - (s : Int)))) p { c with nl := nl } (d.struck z s) ∧ Keeps w (w1.setCell ⟨p, 1, none⟩ (.int .i64 ((d.used : Int) - (s : Int)))) (c.foot p) ∧
      w1.cell? ⟨p, 1, none⟩ = some (.int .i64 (d.used : Int)) ∧ w1.frozen? ⟨p, 1, none⟩ = false := by
  have hp1 := (k1.block p (heap_lt h.hp) h.p_bl).trans h.hp
  have kS : Keeps w1 (w1.setCell ⟨p, 1, none⟩ (.int .i64 ((d.used : Int) - (s : Int)))) (fun k => k = p) := (Keeps.refl w1 (fun k => k = p)).setCell ⟨p, 1, none⟩ (fun _ => rfl) _
  refine ⟨⟨?_, ?_, ?_, ?_, ?_, h.hlf, ?_⟩, ?_, by simp [World.cell?, hp1], by simp [World.frozen?, hp1]⟩
  · have hlt := heap_lt hp1
    have hv := (Array.getElem?_eq_some_iff.1 hp1).2
    have e : ((d.used : Int) - (s : Int)) = ((d.used - s : Nat) : Int) := by omega
    simp only [World.setCell, Array.getElem?_modify]
    simp [hlt, hv, AD.struck, e]
  · exact (h.mem.keeps k1 (fun e => h.bl_b e.symm) (fun e => h.bl_g e.symm)).keeps kS h.p_b.symm h.p_g.symm
  · exact ownsRow_keeps (ownsRow_keeps h.beg k1 (fun k hk e => h.bl_v hk e.symm)) kS (fun k hk e => h.p_v hk e.symm)
  · exact hl.keeps kS h.p_bl.symm
  · exact (h.free.keeps k1 h.hlf.symm).keeps kS h.p_bf.symm
  · exact (h.heaps.keeps k1 (fun i hi e => (h.heap_ne hi).2.2.2.1 e)).keeps kS (fun i hi e => (h.heap_ne hi).1 e)
  · exact (k1.mono (S1 := c.foot p) (fun i _ e => Or.inr (Or.inr (Or.inr (Or.inl e))))).trans kS (fun i _ e => Or.inl e)

/-- leave, at what was just struck. -/
theorem leave_any {w : World} {p : Nat} {c : AR} {d : AD} (h : ArenaAt w p c d) (off : Int) (n : Nat) (hn : n ≤ 134217728) (hl : ∀ xs, d.fm (n : Int) = some xs → xs.length < 134217728) (hk : ∀ x, (d.fm x).isSome = true → x ∈ d.L.map (fun y => (y.2 : Int))) (hL : d.L.length ≤ 134217728) :
    Calls Try.prog 38 #[.pointer (some ⟨p, 0, none⟩), .int .i64 off, .int .i64 (n : Int)] w fun e w' => LeavePost w p c d off (n : Int) e w' := by
  have hf : fitsI (n : Int) := fitsI_mk (by omega) (by omega)
  cases hx : d.fm (n : Int) with
  | some xs => exact leave_old h off _ hf hx (hl xs hx)
  | none =>
    have ht := h.free.tight Try.underlying3 (d.L.map (fun y => (y.2 : Int))) (fun x _ e => hk x (by rw [← h.heaps.dom]; exact e))
    have h' : ArenaAt w p { c with nf := (d.L.map (fun y => (y.2 : Int))).length } d := { h with free := ht }
    exact (leave_new h' off _ hf hx (by simp; omega))

/-- Sorted, and none beside its like. -/
def goodAt (d : AD) (rs : List Int) (i : Nat) : Prop := (d.lv (at0 rs i)).isSome = true ∧ (0 < i → at0 rs i ≠ at0 rs (i - 1))
def allGood (d : AD) (rs : List Int) : Prop := ∀ i, i < rs.length → goodAt d rs i
theorem strict {d : AD} {rs : List Int} (hs : rs.Pairwise (· ≤ ·)) (hg : allGood d rs) {i j : Nat} (hij : i < j) (hj : j < rs.length) : at0 rs i < at0 rs j := by
  have hsl : ∀ a b, a < b → b < rs.length → at0 rs a ≤ at0 rs b := fun a b hab hb => by
    have := (List.pairwise_iff_getElem.1 hs) a b (by omega) hb hab
    simpa [at0, hb, show a < rs.length by omega] using this
  have h1 : at0 rs (j - 1) < at0 rs j := by
    have := hsl (j - 1) j (by omega) hj
    have := (hg j hj).2 (by omega)
    omega
  rcases Nat.lt_or_ge i (j - 1) with h | h
  · have := hsl i (j - 1) h (by omega)
    omega
  · rw [show i = j - 1 by omega]
    exact h1
theorem not_taken {d : AD} {rs : List Int} (hs : rs.Pairwise (· ≤ ·)) (hg : allGood d rs) {i : Nat} (hi : i < rs.length) : at0 rs i ∉ rs.take i := fun h => by
  obtain ⟨k, hk, e⟩ := List.getElem_of_mem h
  have hk' : k < i := by simp at hk; omega
  have h1 := strict hs hg hk' hi
  rw [List.getElem_take] at e
  have : at0 rs k = rs[k]'(by omega) := by simp [at0, show k < rs.length by omega]
  omega
end Go.Proofs.Ytgmcpjklgacdpaa
namespace Go.Proofs.Ytgmcpjklgacdpaa
open Go.RowKit Go.Shelf

theorem rising_sorted (zs : List Int) : (rising zs).Pairwise (· ≤ ·) := by
  have := List.pairwise_mergeSort (le := fun x y : Int => decide (x ≤ y)) (fun a b c h1 h2 => by simp at *; omega) (fun a b => by simp; omega) zs
  exact this.imp (fun h => by simpa using h)

def FreeRel (w1 : World) (p : Nat) (F : Nat → Prop) (d : AD) (rs : List Int) (i : Nat) (wr : World) : Prop :=
  ∃ d', Gones d (rs.take i) d' ∧ Arena wr p (fun k => F k ∨ w1.heap.size ≤ k) d' ∧ Keeps w1 wr F

theorem live_fits {d : AD} (F : d.Fine) {z : Int} {s : Int} (h : d.lv z = some s) : ∃ o n : Nat, z = o ∧ s = n ∧ 0 < n ∧ o + n ≤ 134217728 ∧ (o, n) ∈ d.L := by
  obtain ⟨o, n, e1, e2, hm⟩ := F.live z s h
  have := tiles_mem F.tiles hm
  have := F.most
  exact ⟨o, n, e1, e2, by simp at *; omega, by simp at *; omega, hm⟩

theorem free_step {w1 wr : World} {p : Nat} {F : Nat → Prop} {d : AD} {rs : List Int} {i : Nat} (hR : FreeRel w1 p F d rs i wr) (hF : d.Fine) (hi : i < rs.length) (hs : rs.Pairwise (· ≤ ·)) (hg : allGood d rs) :
    ∃ bl s u w2, wr.cell? ⟨p, 4, none⟩ = some (.map (some bl)) ∧ (Instr.lookup 82 (.map (some bl)) (.int .i64 (at0 rs i)) false).run Try.prog wr = .ok (.int .i64 ((s : Nat) : Int)) wr ∧
      (∀ ty, (Builtin.delete_ #[82, 3] ty #[.map (some bl), .int .i64 (at0 rs i)]).run Try.prog wr = .ok (.tuple #[]) w2) ∧ w2.cell? ⟨p, 1, none⟩ = some (.int .i64 ((u : Nat) : Int)) ∧ w2.frozen? ⟨p, 1, none⟩ = false ∧ s ≤ u ∧ u ≤ 134217728 ∧
      Calls Try.prog 38 #[.pointer (some ⟨p, 0, none⟩), .int .i64 (at0 rs i), .int .i64 (s : Int)] (w2.setCell ⟨p, 1, none⟩ (.int .i64 ((u : Int) - (s : Int)))) fun e w' => e = .returned (.tuple #[]) ∧ FreeRel w1 p F d rs (i + 1) w' := by
  obtain ⟨d', hG, ⟨c, h, hfo⟩, k0⟩ := hR
  have hF' := hF.gones hG
  obtain ⟨s0, hs0⟩ := Option.isSome_iff_exists.1 (hg i hi).1
  have hlv : d'.lv (at0 rs i) = some s0 := by
    rw [hG.lv, if_neg (not_taken hs hg hi)]
    exact hs0
  obtain ⟨o, s, ez, es, hpos, hmax, hm⟩ := live_fits hF' hlv
  rw [ez] at hlv ⊢
  subst es
  have hfit : fitsI (o : Int) := fitsI_mk (by omega) (by omega)
  have hlk := look_int (w := wr) Try.underlying3 Try.underlying82 (Try.zeroI wr) h.live hfit
  rw [hlv] at hlk
  obtain ⟨w2, hdel, hl2, k2⟩ := h.live.strike Try.underlying3 Try.underlying82 hfit
  have hsum := liveSum_gone (lv := d'.lv) hF'.tiles hm (by rw [hlv]; rfl)
  have hsu : s ≤ d'.used := by have := hF'.sum; omega
  have hu : d'.used ≤ 134217728 := by have := hF'.use; have := hF'.lim; omega
  obtain ⟨h3, k3, c1, f1⟩ := h.struck hsu k2 hl2
  have hL : d'.L.length ≤ 134217728 := by have := tiles_length hF'.tiles; have := hF'.most; omega
  refine ⟨c.bl, s, d'.used, w2, h.cell4, hlk, hdel, c1, f1, hsu, hu, ?_⟩
  refine (leave_any h3 (o : Int) s (by omega) (fun xs hx => ?_) (fun x hx => ?_) hL).mono ?_
  · have hx : d'.fm (s : Int) = some xs := hx
    have hnd := hF'.free.nodup _ xs hx
    have := length_le_of_subset hnd (l := d'.begins) (fun z hz => by
      obtain ⟨_, y, hy, e, _⟩ := hF'.free.mem _ xs hx z hz
      exact List.mem_map.2 ⟨y, hy, e.symm⟩)
    rw [AD.begins_length] at this
    have h16 := tiles_length hF'.tiles
    have := hF'.most
    omega
  · obtain ⟨xs, hx⟩ := Option.isSome_iff_exists.1 hx
    obtain ⟨y, hy, e⟩ := hF'.free.size x xs hx
    exact List.mem_map.2 ⟨y, hy, e.symm⟩
  · rintro e w' ⟨rfl, c', h4, k4, f4⟩
    have hg1 : Gone d' (at0 rs i) (d'.gone (o : Int) s) := by
      rw [ez]
      exact ⟨s, hlv, rfl⟩
    have hsz := k0.size
    have hsz2 := k3.size
    refine ⟨rfl, d'.gone (o : Int) s, ?_, ⟨c', h4 _ (rising_perm _), fun k hk => ?_⟩, ?_⟩
    · rw [List.take_succ_eq_append_getElem hi]
      have e1 : rs[i] = at0 rs i := by simp [at0, hi]
      rw [e1]
      exact hG.snoc hg1
    · rcases f4 k hk with e | e
      · exact hfo k e
      · exact Or.inr (by omega)
    · have hin : ∀ j, j < w1.heap.size → c.foot p j → F j := fun j hj e => by
        rcases hfo j e with e | e
        · exact e
        · omega
      exact (k0.trans k3 (fun j hj e => hin j hj e)).trans k4 (fun j hj e => hin j hj e)
end Go.Proofs.Ytgmcpjklgacdpaa
