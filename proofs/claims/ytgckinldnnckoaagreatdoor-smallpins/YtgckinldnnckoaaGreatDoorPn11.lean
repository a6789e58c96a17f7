import Derived.Stop.RegionWithIn
import Derived.Sort.AtCallIn
import Derived.Deep.Cut
import Derived.Test.YtgckinldnnckoaaGreatDoorPn10
/-
  Find: the lowest slot whose cell is full with that tag and key.
-/
namespace Go.Proofs.YtgckinldnnckoaaGreatDoor
open Go.RowKit Go.Shelf Ly Ct
set_option linter.unusedVariables false

/-- Is slot i full with that tag and key? -/
def mtC (c : Nat → GC) (tag : Int) (key : ByteArray) (i : Nat) : Bool := decide ((c i).kind = 2 ∧ (c i).tag = tag ∧ (c i).key = key)
/-- The lowest of the last f of eight slots with M; 8: there is none. -/
def low (M : Nat → Bool) : Nat → Nat
  | 0 => 8
  | f + 1 => if M (7 - f) then 7 - f else low M f
theorem low_spec (M : Nat → Bool) : ∀ f, f ≤ 8 → low M f ≤ 8 ∧ (low M f < 8 → M (low M f) = true ∧ 8 - f ≤ low M f) ∧ ∀ z, 8 - f ≤ z → z < low M f → M z = false
  | 0, _ => ⟨Nat.le_refl _, fun h => absurd h (Nat.lt_irrefl _), fun z h1 h2 => by simp only [low] at h2; omega⟩
  | f + 1, hf => by
    obtain ⟨h1, h2, h3⟩ := low_spec M f (by omega)
    unfold low
    cases hM : M (7 - f)
    · rw [if_neg (by simp)]
      refine ⟨h1, fun h => ⟨(h2 h).1, by have := (h2 h).2; omega⟩, fun z hz1 hz2 => ?_⟩
      by_cases e : z = 7 - f
      · rw [e]; exact hM
      · exact h3 z (by omega) hz2
    · rw [if_pos rfl]
      exact ⟨by omega, fun _ => ⟨hM, by omega⟩, fun z hz1 hz2 => by omega⟩
theorem low_is {M : Nat → Bool} {y : Nat} (hy : y < 8) (h1 : M y = true) (h2 : ∀ z, z < y → M z = false) : low M 8 = y := by
  obtain ⟨a, b, c⟩ := low_spec M 8 (Nat.le_refl _)
  rcases Nat.lt_trichotomy (low M 8) y with h | h | h
  · have := (b (by omega)).1
    rw [h2 _ h] at this
    cases this
  · exact h
  · have := c y (by omega) h
    rw [h1] at this
    cases this
theorem low_none {M : Nat → Bool} (h : ∀ z, z < 8 → M z = false) : low M 8 = 8 := by
  obtain ⟨a, b, c⟩ := low_spec M 8 (Nat.le_refl _)
  by_cases hl : low M 8 < 8
  · have := (b hl).1
    rw [h _ hl] at this
    cases this
  · omega
def slChk (m k : Nat) : Bool := !(decide (k < (slM m).length)) || (decide ((slM m).getD k 0 < 8) && hasM m ((slM m).getD k 0) && (List.range 8).all (fun z => !(decide (z < (slM m).getD k 0)) || !(hasM m z) || decide (z ∈ (slM m).take k)))
theorem sl_chk : ∀ m, m < 256 → ∀ k, k < 8 → slChk m k = true := by decide +kernel
theorem sl_take {m : Nat} (hm : m < 256) {k : Nat} (hk8 : k < 8) (hk : k < (slM m).length) : (slM m)[k] < 8 ∧ hasM m (slM m)[k] = true ∧ ∀ z, z < 8 → z < (slM m)[k] → hasM m z = true → z ∈ (slM m).take k := by
  have h := sl_chk m hm k hk8
  have e : (slM m).getD k 0 = (slM m)[k] := by simp [List.getD, hk]
  unfold slChk at h
  rw [e, decide_eq_true hk] at h
  simp only [Bool.not_true, Bool.false_or, Bool.and_eq_true, decide_eq_true_eq, List.all_eq_true, Bool.or_eq_true, Bool.not_eq_true', decide_eq_false_iff_not, List.mem_range] at h
  refine ⟨h.1.1, h.1.2, fun z h8 hz hh => ?_⟩
  rcases h.2 z h8 with (q | q) | q
  · exact absurd hz q
  · rw [hh] at q; cases q
  · exact q
theorem sl_len : ∀ m, m < 256 → (slM m).length ≤ 8 := by decide +kernel
theorem sl_mem {m z : Nat} (hz : z < 8) (h : hasM m z = true) : z ∈ slM m := by
  unfold slM
  rw [List.mem_filter]
  exact ⟨List.mem_range.2 hz, h⟩

/-- The set that Match makes: just the slots that are full with that tag. -/
theorem match_has {d : AD} {l : Lay} {off : Nat} {c : Nat → GC} (h : GroupAt d l off c) {tag : Int} (h1 : tag ≤ 127) (h0 : 0 ≤ tag) {i : Nat} (hi : i < 8) : hasM (mk (tagB tag) (wordN d off)) i = decide ((c i).kind = 2 ∧ (c i).tag = tag) := by
  rw [hasM_mk _ _ hi, h.word i hi]
  unfold tagB
  have ho := h.ok i hi
  rcases ho with q | q | q
  · rw [q]
    have : GC.mark GC.zero = 128 := rfl
    rw [this]
    exact decide_eq_decide.2 ⟨fun e => by omega, fun e => by exact absurd e.1 (by decide)⟩
  · rw [q]
    have : GC.mark GC.gone = 254 := rfl
    rw [this]
    exact decide_eq_decide.2 ⟨fun e => by omega, fun e => by exact absurd e.1 (by decide)⟩
  · unfold GC.mark
    rw [if_pos q.1]
    exact decide_eq_decide.2 ⟨fun e => ⟨q.1, by omega⟩, fun e => by have := e.2; omega⟩

theorem find_stop {d : AD} {l : Lay} {off : Nat} {c : Nat → GC} (h : GroupAt d l off c) {tag : Int} (h1 : tag ≤ 127) (h0 : 0 ≤ tag) {key : ByteArray} {ps : List Nat} {y : Nat} (hp : ps ++ [y] <+: slM (mk (tagB tag) (wordN d off)))
    (hy : keyS d l (off : Int) y = key) (hn : ∀ z, z ∈ ps → keyS d l (off : Int) z ≠ key) : low (mtC c tag key) 8 = y := by
  have hm := mk_lt (tagB tag) (wordN d off)
  obtain ⟨t, ht⟩ := hp
  have hlen : ps.length < (slM (mk (tagB tag) (wordN d off))).length := by rw [← ht]; simp
  have hl8 := sl_len _ hm
  have hyk : y = (slM (mk (tagB tag) (wordN d off)))[ps.length] := by simp [← ht]
  have htk : (slM (mk (tagB tag) (wordN d off))).take ps.length = ps := by rw [← ht]; simp
  obtain ⟨a1, a2, a3⟩ := sl_take hm (k := ps.length) (by omega) hlen
  rw [← hyk] at a1 a2 a3
  rw [htk] at a3
  rw [match_has h h1 h0 a1, decide_eq_true_iff] at a2
  refine low_is a1 (decide_eq_true ⟨a2.1, a2.2, ?_⟩) (fun z hz => decide_eq_false fun q => ?_)
  · rw [← keyS_full h a1 a2.1]
    exact hy
  · have hz8 : z < 8 := by omega
    refine hn z (a3 z hz8 hz ?_) ?_
    · rw [match_has h h1 h0 hz8]
      exact decide_eq_true ⟨q.1, q.2.1⟩
    · rw [keyS_full h hz8 q.1]
      exact q.2.2
theorem find_done {d : AD} {l : Lay} {off : Nat} {c : Nat → GC} (h : GroupAt d l off c) {tag : Int} (h1 : tag ≤ 127) (h0 : 0 ≤ tag) {key : ByteArray} (hn : ∀ z, z ∈ slM (mk (tagB tag) (wordN d off)) → keyS d l (off : Int) z ≠ key) : low (mtC c tag key) 8 = 8 := by
  refine low_none (fun z hz => decide_eq_false fun q => ?_)
  refine hn z (sl_mem hz ?_) ?_
  · rw [match_has h h1 h0 hz]
    exact decide_eq_true ⟨q.1, q.2.1⟩
  · rw [keyS_full h hz q.1]
    exact q.2.2

theorem alloc4 {w : World} {o1 o2 o3 o4 : Obj} {P : World → Prop} (h : ∀ W0, W0.heap[w.heap.size]? = some o1 → W0.heap[w.heap.size + 1]? = some o2 → W0.heap[w.heap.size + 1 + 1]? = some o3 → W0.heap[w.heap.size + 1 + 1 + 1]? = some o4 → W0.heap.size = w.heap.size + 4 → Keeps w W0 (fun _ => False) → P W0) : P ((((w.alloc o1).alloc o2).alloc o3).alloc o4) := by
  refine alloc3 (P := fun W => P (W.alloc o4)) fun W0 h1 h2 h3 hz K => ?_
  have k4 : Keeps W0 (W0.alloc o4) (fun _ => False) := (Keeps.refl _ _).alloc _
  have h4 := heap_alloc_new W0 o4
  rw [hz] at h4
  exact h _ (k4.blk h1) (k4.blk h2) (k4.blk h3) h4 (by simp [hz]) (K.trans k4 (fun _ _ e => e))

theorem kpOwn {w : World} {β : Type} {B : Nat} (hB : w.heap.size ≤ B) : OwnFrom B (fun (_ : β) W => Ct.Kp w W) := fun _ X Y row hs hg hr =>
  ⟨hg.os.trans hs.os, hg.tape.trans hs.tape, hg.output.trans hs.output, Nat.le_trans hs.size hg.size, fun k hk => (hg.block k (Nat.lt_of_lt_of_le hk hs.size) (fun e => by have := (hr k e.symm).1; omega)).trans (hs.block k hk)⟩
theorem kpPut {w W : World} (k : Ct.Kp w W) {l : Nat} (hl : w.heap.size ≤ l) (o : Obj) : Ct.Kp w (W.putObj l o) := by
  have g := grownBy_putObj' W l o
  exact ⟨g.os.trans k.os, g.tape.trans k.tape, g.output.trans k.output, Nat.le_trans k.size g.size, fun i hi => (g.block i (Nat.lt_of_lt_of_le hi k.size) (fun e => by cases e; omega)).trans (k.block i hi)⟩
theorem putBlk {W : World} {l q : Nat} {o o' : Obj} (h : W.heap[q]? = some o') (hne : q ≠ l) : (W.putObj l o).heap[q]? = some o' :=
  ((grownBy_putObj' W l o).block q (Array.getElem?_eq_some_iff.1 h).1 (fun e => hne (by cases e; rfl))).trans h
theorem setBlk {W : World} {l q : Nat} {v : Value} {o' : Obj} (h : W.heap[q]? = some o') (hne : q ≠ l) : (W.setCell ⟨l, 0, none⟩ v).heap[q]? = some o' := (Below.heap_setCell W ⟨l, 0, none⟩ v q hne).trans h
theorem keepsFrom_kp {B : Nat} {W W' : World} (k : Ct.Kp W W') : KeepsFrom B W W' := ⟨k.size, fun q o _ hq _ => Ct.Kp.blk k hq⟩
theorem keepsFrom_set {B : Nat} {W : World} {q o : Nat} (v : Value) : KeepsFrom B W (W.setCell ⟨q, o, none⟩ v) := (KeepsOthers.setCell _ _ _).from _
theorem str_eq {a b : ByteArray} (h : a.toList = b.toList) : a = b := by
  rw [ByteArray.toList_eq, ByteArray.toList_eq] at h
  exact ByteArray.ext (Array.toList_inj.1 h)

theorem resF (tmps : Array Value) (w : World) (B C : Nat) (v u : Value) (hp : tmps.getD 6 undef = .pointer (some ⟨B, 0, none⟩)) (hq : tmps.getD 7 undef = .pointer (some ⟨C, 0, none⟩)) (hc : w.cell? ⟨B, 0, none⟩ = some v) (hd : w.cell? ⟨C, 0, none⟩ = some u) : (results Tryz.f92 tmps).run Tryz.prog w = .ok (.tuple #[v, u]) w := by
  have hp' : tmps[6]?.getD undef = .pointer (some ⟨B, 0, none⟩) := by simpa using hp
  have hq' : tmps[7]?.getD undef = .pointer (some ⟨C, 0, none⟩) := by simpa using hq
  simp [results, Tryz.results92, go_sem, hp', hq', hc, hd]

attribute [local go_sem] Oper.semAt_some

set_option maxRecDepth 100000 in
set_option maxHeartbeats 4000000 in
theorem find_any {w : World} {p : Nat} {F : Nat → Prop} {d : AD} (hA : Arena w p F d) (hF : d.Fine) (l : Lay) (off : Nat) (c : Nat → GC) (hG : GroupAt d l off c) (ho : fitsI (off : Int)) (hn : fitsI l.g) (hT : TabAt w) (tag : Int) (key : ByteArray) (h0 : 0 ≤ tag) (h1 : tag ≤ 127) (hk : (key.size : Int) = l.k) :
    Calls Tryz.prog 92 #[.agg #[.pointer (some ⟨p, 0, none⟩), .int .i64 l.k, .int .i64 l.e, .int .i64 l.a, .int .i64 l.b, .int .i64 l.c, .int .i64 l.eo, .int .i64 l.bo, .int .i64 l.s, .int .i64 l.g, .int .i64 (off : Int)], .int .i64 tag, .string key] w fun e w' => e = .returned (.tuple #[.int .i64 ((low (mtC c tag key) 8 : Nat) : Int), .int .i64 0]) ∧ Keeps w w' (fun _ => False) := by
  have hTg := fun W => gtag_any tag W
  rw [decide_eq_true ⟨h0, h1⟩] at hTg
  have hWd := fun W (k : Keeps w W (fun _ => False)) => word_any (hA.keeps k (fun _ _ _ e => e)) hF l (off : Int) ho hn
  have hwv : wordV d l (off : Int) = (((wordN d off : Nat) : Int), 0) := if_pos hG.there
  rw [hwv] at hWd
  have hMt : ∀ W, Calls Tryz.prog 111 #[.int .u64 ((wordN d off : Nat) : Int), .int .i64 tag] W fun e w' => e = .returned (.agg #[.int .u64 ((spread (mk (tagB tag) (wordN d off)) : Nat) : Int)]) ∧ Ct.Kp W w' := fun W => match_is ⟨_, wordN_lt, rfl, rfl⟩ W
  have hAll := fun W => all_call ((spread (mk (tagB tag) (wordN d off)) : Nat) : Int) W
  have hKy := fun W (k : Keeps w W (fun _ => False)) x => key_all (hA.keeps k (fun _ _ _ e => e)) hF l (off : Int) x hG.there
  have hm := mk_lt (tagB tag) (wordN d off)
  have hstopf : Hid (∀ (ps : List Nat) (y : Nat), ps ++ [y] <+: slM (mk (tagB tag) (wordN d off)) → keyS d l (off : Int) y = key → (∀ z, z ∈ ps → keyS d l (off : Int) z ≠ key) → low (mtC c tag key) 8 = y) := fun ps y a b e => find_stop hG h1 h0 a b e
  have hdonef : Hid ((∀ z, z ∈ slM (mk (tagB tag) (wordN d off)) → keyS d l (off : Int) z ≠ key) → low (mtC c tag key) 8 = 8) := fun e => find_done hG h1 h0 e
  have hkb : ((key.size : Int) != l.k) = false := by simp [hk]
  generalize low (mtC c tag key) 8 = LW at *
  generalize mk (tagB tag) (wordN d off) = m at *
  generalize keyS d l (off : Int) = ky at *
  generalize wordN d off = Wd at *
  clear hwv hk hG hA hF h0 h1
  refine (callsIn_wide (n := 8)).1 ?_
  refine callsIn_of_wp_marks Tryz.func92 rfl trivial ?_ rfl
  simp only [Tryz.ntmps92, List.size_toArray, List.length_cons, List.length_nil, Nat.reduceAdd, Nat.reduceSub, Array.replicate_succ, Array.replicate_zero, List.push_toArray, List.append_toArray, List.nil_append, List.cons_append]
  rw [wpIn_wide]
  go_wp2_with fail
  refine alloc4 (P := fun W => Calls _ _ _ W _) fun V hg hkc hr0 hr1 hz K0 => ?_
  refine (hTg _).mono ?_
  rintro e W1 ⟨rfl, rfl⟩
  have C0 := c11_of hg
  obtain ⟨c0, c1, c2, c3, c4, c5, c6, c7, c8, c9, c10⟩ := C0
  have ck : W1.cell? ⟨w.heap.size + 1, 0, none⟩ = some (.string key) := by simp [World.cell?, hkc]
  go_wp2_with fail
  refine (hWd _ K0).mono ?_
  rintro e W2 ⟨rfl, k2⟩
  go_wp2_with fail
  refine (hMt _).mono ?_
  rintro e W3 ⟨rfl, k3⟩
  go_wp2_with fail
  refine (hAll _).mono ?_
  rintro e W4 ⟨rfl, hW4⟩
  have k14 : Keeps W1 W4 (fun _ => False) := by
    rw [hW4]
    exact (k2.trans (Keeps.ofKp k3) (fun _ _ e => e)).alloc _
  have hb4 : W4.heap[W3.heap.size]? = some (.cells #[.int .u64 ((spread m : Nat) : Int)] 168) := by
    rw [hW4]
    exact heap_alloc_new _ _
  have hs4 := (Ct.one_cell hb4).1
  have hg4 := k14.blk hg
  have hkc4 := k14.blk hkc
  have hr04 := k14.blk hr0
  have hr14 := k14.blk hr1
  have K4 := K0.trans k14 (fun _ _ e => e)
  have hT4 : TabAt W4 := hT.kp (K4.below (Nat.le_refl _) (fun _ _ e => e))
  obtain ⟨Bs, hBs⟩ : ∃ B, B = W3.heap.size := ⟨_, rfl⟩
  rw [← hBs] at hs4 ⊢
  obtain ⟨B0, hB0⟩ : ∃ B, B = w.heap.size := ⟨_, rfl⟩
  obtain ⟨B1, hB1⟩ : ∃ B, B = w.heap.size + 1 := ⟨_, rfl⟩
  obtain ⟨B2, hB2⟩ : ∃ B, B = w.heap.size + 1 + 1 := ⟨_, rfl⟩
  obtain ⟨B3, hB3⟩ : ∃ B, B = w.heap.size + 1 + 1 + 1 := ⟨_, rfl⟩
  rw [← hB3] at hr14 ⊢
  rw [← hB2] at hr04 ⊢
  rw [← hB1] at hkc4 ⊢
  rw [← hB0] at hg4 ⊢
  have hN : Aside (B0 = w.heap.size ∧ B1 = w.heap.size + 1 ∧ B2 = w.heap.size + 2 ∧ B3 = w.heap.size + 3 ∧ w.heap.size + 4 ≤ W4.heap.size) := ⟨hB0, hB1, hB2, hB3, by have := k14.size; omega⟩
  clear hB0 hB1 hB2 hB3 hBs hW4 hb4 k2 k3 hT hTg hWd hMt hAll hz hg hkc hr0 hr1 k14 K0 c0 c1 c2 c3 c4 c5 c6 c7 c8 c9 c10 ck
  go_wp2_with fail
  refine range_set (n := 8) (by omega) (Bs := Bs) (m := m) rfl hm hT4 hs4 rfl
    (fun a x => { tmps := (a.tmps.setIfInBounds 34 (.int .i64 (x : Int))).setIfInBounds 10 (.int .i64 (x : Int)), defers := [] })
    (fun pre W => (∀ y, y ∈ pre → ky y ≠ key) ∧ Ct.Kp W4 W)
    (fun c xs W => (c = .ret ∧ ∃ (ps : List Nat) (y : Nat), xs = ps ++ [y] ∧ ky y = key ∧ (∀ z, z ∈ ps → ky z ≠ key) ∧ Boxed W B2 3 (.int .i64 (y : Int)) ∧ Boxed W B3 52 (.int .i64 0)) ∧ Ct.Kp w W)
    ?hI ?hIx ⟨by simp, Ct.Kp.refl _⟩ ?hassign ?hbody ?hdone ?hstop
  case hI => exact OwnFrom.and (ownFrom_pure _ _) (kpOwn (Nat.le_refl _))
  case hIx =>
    intro c s X Y row hs hg hr
    obtain ⟨⟨h1, ps, y, h2, h3, h4, h5, h6⟩, h7⟩ := hs
    obtain ⟨n0, n1, n2, n3, n4⟩ := hN.out
    refine ⟨⟨h1, ps, y, h2, h3, h4, h5.kept hg (fun e => ?_), h6.kept hg (fun e => ?_)⟩, kpOwn (β := Unit) (B := W4.heap.size) (by omega) () X Y row h7 hg hr⟩
    · have := (hr B2 e.symm).1
      omega
    · have := (hr B3 e.symm).1
      omega
  case hassign =>
    intro l x W K hK
    gi_wp2
    exact hK
  case hbody =>
    rintro l pre x X hl - ⟨hpre, hkX⟩ hlt
    obtain ⟨n0, n1, n2, n3, n4⟩ := hN.out
    have kd : Keeps W4 X.drew (fun _ => False) := (Keeps.ofKp hkX).drew
    have kXd := K4.trans kd (fun _ _ e => e)
    obtain ⟨c0, c1, c2, c3, c4, c5, c6, c7, c8, c9, c10⟩ := c11_of (kd.blk hg4)
    have ck := (Ct.one_cell (kd.blk hkc4)).1
    have hKx := hKy _ kXd x
    have HK := hide (And.intro kd hpre)
    have Hl := hide (show ∀ w', Keeps X.drew w' (fun _ => False) → w'.cell? ⟨B1, 0, none⟩ = some (.string key) ∧ Boxed w' B2 3 (.int .i64 0) ∧ Boxed w' B3 52 (.int .i64 0) from fun w' k => ⟨(Ct.one_cell (k.blk (kd.blk hkc4))).1, k.blk (kd.blk hr04), k.blk (kd.blk hr14)⟩)
    have hne : Hid (B2 ≠ B3) := by show B2 ≠ B3; omega
    clear n0 n1 n2 n3 n4 hpre hlt hl
    generalize hkyx : ky x = kx at *
    replace hkyx := hide hkyx
    dsimp only
    simp only [List.setIfInBounds_toArray, List.set_cons_zero, List.set_cons_succ]
    by_cases hy : kx = key
    · have hy' : (kx.toList == key.toList) = true := by simp [hy]
      replace hy := hide hy
      gi_wp2
      gi_region_with (refine ⟨trivial, (CallsIn.inRound l (callsIn_wide.2 hKx)).mono ?_⟩; rintro r wK ⟨rfl, kK⟩; have ckK := (Hl.out _ kK).1)
      all_goals (
        obtain ⟨-, b2, b3⟩ := Hl.out _ kK
        have r1 := b2.cell
        have r2 := b2.frozen
        have b3' : Boxed (wK.setCell ⟨B2, 0, none⟩ (.int .i64 (x : Int))) B3 52 (.int .i64 0) := setBlk b3 hne.out.symm
        have r3 := b3'.cell
        have r4 := b3'.frozen
        have kwK : Ct.Kp w wK := (kXd.trans kK (fun _ _ e => e)).below (Nat.le_refl _) (fun _ _ e => e)
        have kXK : Ct.Kp X wK := (((Keeps.refl X (fun _ => False)).drew).trans kK (fun _ _ e => e)).below (Nat.le_refl _) (fun _ _ e => e)
        obtain ⟨n0, n1, n2, n3, n4⟩ := hN.out
        have hfin : Hid (KeepsFrom W4.heap.size X ((wK.setCell ⟨B2, 0, none⟩ (.int .i64 (x : Int))).setCell ⟨B3, 0, none⟩ (.int .i64 0)) ∧ Boxed ((wK.setCell ⟨B2, 0, none⟩ (.int .i64 (x : Int))).setCell ⟨B3, 0, none⟩ (.int .i64 0)) B2 3 (.int .i64 (x : Int)) ∧ Boxed ((wK.setCell ⟨B2, 0, none⟩ (.int .i64 (x : Int))).setCell ⟨B3, 0, none⟩ (.int .i64 0)) B3 52 (.int .i64 0) ∧ Ct.Kp w ((wK.setCell ⟨B2, 0, none⟩ (.int .i64 (x : Int))).setCell ⟨B3, 0, none⟩ (.int .i64 0))) :=
          ⟨((keepsFrom_kp kXK).trans (keepsFrom_set _)).trans (keepsFrom_set _), setBlk (b2.set _) hne.out, b3'.set _, Below.setCell (Below.setCell kwK (by show w.heap.size ≤ B2; omega) _) (by show w.heap.size ≤ B3; omega) _⟩
        clear b2 b3 b3' kwK kXK n0 n1 n2 n3 n4 c0 c1 c2 c3 c4 c5 c6 c7 c8 c9 c10 ck ckK Hl kK kXd kd hKx hKy hg4 hkc4 hr04 hr14 hT4 hs4 K4 hkX
        gi_wp2
        exact ⟨hfin.out.1, ⟨rfl, pre, x, rfl, hkyx.out.trans hy.out, HK.out.2, hfin.out.2.1, hfin.out.2.2.1⟩, hfin.out.2.2.2⟩)
    · have hy' : (kx.toList == key.toList) = false := by
        rw [beq_eq_false_iff_ne]
        exact fun e => hy (str_eq e)
      replace hy := hide hy
      gi_wp2
      gi_region_with (refine ⟨trivial, (CallsIn.inRound l (callsIn_wide.2 hKx)).mono ?_⟩; rintro r wK ⟨rfl, kK⟩; have ckK := (Hl.out _ kK).1)
      all_goals (
        have kXK : Ct.Kp X wK := (((Keeps.refl X (fun _ => False)).drew).trans kK (fun _ _ e => e)).below (Nat.le_refl _) (fun _ _ e => e)
        have k4K : Ct.Kp W4 wK := (kd.trans kK (fun _ _ e => e)).below (Nat.le_refl _) (fun _ _ e => e)
        have hfin : Hid (KeepsFrom W4.heap.size X wK ∧ Ct.Stay X wK ∧ (∀ y, y ∈ pre ++ [x] → ky y ≠ key) ∧ Ct.Kp W4 wK) := ⟨keepsFrom_kp kXK, Ct.Stay.kp kXK, fun y hy2 => by
          rcases List.mem_append.1 hy2 with h | h
          · exact HK.out.2 y h
          · rw [List.mem_singleton.1 h, hkyx.out]; exact hy.out, k4K⟩
        clear kXK k4K c0 c1 c2 c3 c4 c5 c6 c7 c8 c9 c10 ck ckK Hl kK kXd kd hKx hKy hg4 hkc4 hr04 hr14 hT4 hs4 K4 hkX
        gi_wp2
        exact hfin.out)
  case hdone =>
    rintro D X hD ⟨hall, hkX⟩ hK
    have e : LW = 8 := hdonef.out hall
    subst e
    obtain ⟨n0, n1, n2, n3, n4⟩ := hN.out
    have b2 : Boxed X B2 3 (.int .i64 0) := Ct.Kp.blk hkX hr04
    have b3 : Boxed X B3 52 (.int .i64 0) := Ct.Kp.blk hkX hr14
    have r1 := b2.cell
    have r2 := b2.frozen
    have b3' : Boxed (X.setCell ⟨B2, 0, none⟩ (.int .i64 8)) B3 52 (.int .i64 0) := setBlk b3 (by omega)
    have r3 := b3'.cell
    have r4 := b3'.frozen
    have kwX : Ct.Kp w X := (K4.trans (Keeps.ofKp hkX) (fun _ _ e => e)).below (Nat.le_refl _) (fun _ _ e => e)
    have q2 : Boxed ((X.setCell ⟨B2, 0, none⟩ (.int .i64 8)).setCell ⟨B3, 0, none⟩ (.int .i64 0)) B2 3 (.int .i64 8) := setBlk (b2.set _) (by omega)
    have q3 := b3'.set (.int .i64 0)
    have hd : ((X.setCell ⟨B2, 0, none⟩ (.int .i64 8)).setCell ⟨B3, 0, none⟩ (.int .i64 0)).heap[D]? = some (.deferred (some [])) := setBlk (setBlk hK (by omega)) (by omega)
    have p2 := (Ct.one_cell (putBlk (l := D) (o := .deferred none) q2 (by omega))).1
    have p3 := (Ct.one_cell (putBlk (l := D) (o := .deferred none) q3 (by omega))).1
    have kf := kpPut (l := D) (show Ct.Kp w ((X.setCell ⟨B2, 0, none⟩ (.int .i64 8)).setCell ⟨B3, 0, none⟩ (.int .i64 0)) from Below.setCell (Below.setCell kwX (by show w.heap.size ≤ B2; omega) _) (by show w.heap.size ≤ B3; omega) _) (by omega) (.deferred none)
    have hfin : Aside (_ ∧ _ ∧ _ ∧ Ct.Kp w _) := ⟨hd, p2, p3, kf⟩
    clear n0 n1 n2 n3 n4 b2 b3 b3' kwX q2 q3 hd p2 p3 kf hall hkX hK hD hN hKy hg4 hkc4 hr04 hr14 hT4 hs4 K4 hstopf hdonef
    go_wp2_with fail
    obtain ⟨d1, p2, p3, kf⟩ := hfin.out
    refine ⟨by simp, .inl ⟨_, _, rfl, run_takeDeferred d1, ?_⟩⟩
    exact ⟨_, resF _ _ B2 B3 _ _ rfl rfl p2 p3, rfl, Keeps.ofKp kf⟩
  case hstop =>
    rintro D c pre X hD hp ⟨⟨rfl, ps, y, rfl, h3, h4, h5, h6⟩, h7⟩ hK
    have e : LW = y := hstopf.out ps y hp h3 h4
    subst e
    obtain ⟨n0, n1, n2, n3, n4⟩ := hN.out
    have p2 := (Ct.one_cell (putBlk (l := D) (o := .deferred none) h5 (by omega))).1
    have p3 := (Ct.one_cell (putBlk (l := D) (o := .deferred none) h6 (by omega))).1
    have kf := kpPut (l := D) h7 (by omega) (.deferred none)
    have hfin : Aside (_ ∧ _ ∧ _ ∧ Ct.Kp w _) := ⟨hK, p2, p3, kf⟩
    clear n0 n1 n2 n3 n4 h3 h4 h5 h6 h7 p2 p3 kf hp hK hD hN hKy hg4 hkc4 hr04 hr14 hT4 hs4 K4 hstopf hdonef
    rw [wpIn_wide]
    go_wp2_with fail
    obtain ⟨d1, p2, p3, kf⟩ := hfin.out
    refine ⟨by simp, .inl ⟨_, _, rfl, run_takeDeferred d1, ?_⟩⟩
    exact ⟨_, resF _ _ B2 B3 _ _ rfl rfl p2 p3, rfl, Keeps.ofKp kf⟩
end Go.Proofs.YtgckinldnnckoaaGreatDoor
/-
  small: keyed, slot, empty, Find, Get, Cell.
-/
namespace Go.Proofs.YtgckinldnnckoaaGreatDoor
open Go.RowKit Go.Shelf Ly Ct
set_option linter.unusedVariables false
/-- Where a key lies: its slot; -1: nowhere. -/
def sltI (c : Nat → GC) (tag : Int) (key : ByteArray) : Int := if low (mtC c tag key) 8 = 8 then -1 else ((low (mtC c tag key) 8 : Nat) : Int)
section
variable {w : World} {p : Nat} {F : Nat → Prop} {d : AD} {l : Lay} {off : Nat} {f : Nat → Int} {c : Nat → GC}

set_option maxRecDepth 100000 in
set_option maxHeartbeats 1000000 in
theorem skeyed_any (hA : Arena w p F d) (hF : d.Fine) (h : SmD d l off f c) (key : ByteArray) (hk : (key.size : Int) = l.k) :
    Calls Tryz.prog 59 #[.agg #[.pointer (some ⟨p, 0, none⟩), .int .i64 l.k, .int .i64 l.e, .int .i64 l.a, .int .i64 l.b, .int .i64 l.c, .int .i64 l.eo, .int .i64 l.bo, .int .i64 l.s, .int .i64 l.g, .int .i64 (off : Int)], .string key] w fun e w' => e = .returned (.tuple #[statS f, .int .i64 0]) ∧ Keeps w w' (fun _ => False) := by
  have hSt := fun W (k : Keeps w W (fun _ => False)) => sstat_sm (hA.keeps k (fun _ _ _ e => e)) hF h
  unfold statS at hSt ⊢
  have hkb : ((key.size : Int) != l.k) = false := by simp [hk]
  clear hA h hk
  generalize f 0 = f0 at *
  generalize f 1 = f1 at *
  generalize f 2 = f2 at *
  generalize f 3 = f3 at *
  go_enter Tryz.func59, Tryz.ntmps59
  go_wp2_with fail
  refine alloc2 (P := fun W => Calls _ _ _ W _) fun W0 hb hr hz K0 => ?_
  (with_reducible refine (hSt _ K0).mono ?_)
  rintro r w1 ⟨rfl, k1⟩
  have K1 : Keeps w w1 (fun _ => False) := K0.trans k1 (fun _ _ e => e)
  have k2 : Keeps w1 (w1.alloc (.cells #[.int .i64 f3, .int .i64 f1, .int .i64 f2, .bool (f0 == 3)] 51)) (fun _ => False) := (Keeps.refl _ _).alloc _
  obtain ⟨c0, c1, c2, c3, c4, c5, c6, c7, c8, c9, c10⟩ := c11_of (k2.blk (k1.blk hb))
  obtain ⟨⟨t0, t1, t2, t3⟩, -⟩ := st4_cells (heap_alloc_new w1 (.cells #[.int .i64 f3, .int .i64 f1, .int .i64 f2, .bool (f0 == 3)] 51))
  have hr2 := k2.blk (k1.blk hr)
  obtain ⟨⟨d0, d1, d2, d3⟩, g0, g1, g2, g3⟩ := st4_cells hr2
  have K2 : Keeps w (w1.alloc (.cells #[.int .i64 f3, .int .i64 f1, .int .i64 f2, .bool (f0 == 3)] 51)) (fun _ => False) := K1.trans k2 (fun _ _ e => e)
  clear hSt
  go_wp2_with fail
  refine st4_set hr2 K2 (fun h => by omega) (P := fun w9 => bodyPost _ _ _ _ _ w9) fun w9 h9 k9 _ => ?_
  obtain ⟨⟨e0, e1, e2, e3⟩, -⟩ := st4_cells h9
  exact bodyPost_ret (v := .tuple #[.agg #[.int .i64 f3, .int .i64 f1, .int .i64 f2, .bool (f0 == 3)], .int .i64 0]) (by simp [results, Tryz.results59, go_sem, e0, e1, e2, e3]) rfl ⟨rfl, k9⟩

set_option maxRecDepth 100000 in
set_option maxHeartbeats 1000000 in
theorem sslot_any (hA : Arena w p F d) (hF : d.Fine) (h : SmD d l off f c) (hT : TabAt w) (tag : Int) (key : ByteArray) (h0 : 0 ≤ tag) (h1 : tag ≤ 127) (hk : (key.size : Int) = l.k) :
    Calls Tryz.prog 60 #[.agg #[.pointer (some ⟨p, 0, none⟩), .int .i64 l.k, .int .i64 l.e, .int .i64 l.a, .int .i64 l.b, .int .i64 l.c, .int .i64 l.eo, .int .i64 l.bo, .int .i64 l.s, .int .i64 l.g, .int .i64 (off : Int)], .int .i64 tag, .string key] w fun e w' => e = .returned (.tuple #[.int .i64 (sltI c tag key), .int .i64 0]) ∧ Keeps w w' (fun _ => False) := by
  have ho := h.off_le hF
  have hv := valid_more h.grp.valid
  have hG := fun W => sgroup_any p l (off : Int) W (by omega) (by omega)
  have hFi := fun W (k : Keeps w W (fun _ => False)) => find_any (hA.keeps k (fun _ _ _ e => e)) hF l (off + 32) c h.grp (fitsI_mk (by omega) (by omega)) (fitsI_mk (by omega) (by omega)) (hT.kp (k.below (Nat.le_refl _) (fun _ _ e => e))) tag key h0 h1 hk
  rw [show ((off + 32 : Nat) : Int) = (off : Int) + 32 from rfl] at hFi
  unfold sltI
  have hle : low (mtC c tag key) 8 ≤ 8 := (low_spec (mtC c tag key) 8 (Nat.le_refl _)).1
  generalize low (mtC c tag key) 8 = LW at *
  generalize (off : Int) + 32 = y at *
  clear hA h hv hT
  by_cases h8 : LW = 8
  · subst h8
    rw [if_pos rfl]
    go_enter Tryz.func60, Tryz.ntmps60
    go_wp2_with fail
    refine alloc1 (P := fun W => Calls _ _ _ W _) fun W0 hb hz K0 => ?_
    (with_reducible refine (hG _).mono ?_)
    rintro r w1 ⟨rfl, k1⟩
    have K1 : Keeps w w1 (fun _ => False) := K0.trans k1 (fun _ _ e => e)
    go_wp2_with fail
    (with_reducible refine (hFi _ K1).mono ?_)
    rintro r w2 ⟨rfl, k2⟩
    have K2 : Keeps w w2 (fun _ => False) := K1.trans k2 (fun _ _ e => e)
    clear hG hFi
    go_wp2_with fail
    go_ret2
    exact ⟨rfl, K2⟩
  · rw [if_neg h8]
    have h8' : ((LW : Int) == 8) = false := by
      rw [beq_eq_false_iff_ne]
      omega
    generalize (LW : Int) = lw at *
    go_enter Tryz.func60, Tryz.ntmps60
    go_wp2_with fail
    refine alloc1 (P := fun W => Calls _ _ _ W _) fun W0 hb hz K0 => ?_
    (with_reducible refine (hG _).mono ?_)
    rintro r w1 ⟨rfl, k1⟩
    have K1 : Keeps w w1 (fun _ => False) := K0.trans k1 (fun _ _ e => e)
    go_wp2_with fail
    (with_reducible refine (hFi _ K1).mono ?_)
    rintro r w2 ⟨rfl, k2⟩
    have K2 : Keeps w w2 (fun _ => False) := K1.trans k2 (fun _ _ e => e)
    clear hG hFi
    go_wp2_with fail
    go_ret2
    exact ⟨rfl, K2⟩

set_option maxRecDepth 100000 in
set_option maxHeartbeats 1000000 in
theorem sfind_any (hA : Arena w p F d) (hF : d.Fine) (h : SmD d l off f c) (hT : TabAt w) (tag : Int) (key : ByteArray) (h0 : 0 ≤ tag) (h1 : tag ≤ 127) (hk : (key.size : Int) = l.k) :
    Calls Tryz.prog 34 #[.agg #[.pointer (some ⟨p, 0, none⟩), .int .i64 l.k, .int .i64 l.e, .int .i64 l.a, .int .i64 l.b, .int .i64 l.c, .int .i64 l.eo, .int .i64 l.bo, .int .i64 l.s, .int .i64 l.g, .int .i64 (off : Int)], .int .i64 tag, .string key] w fun e w' => e = .returned (.tuple #[.int .i64 (sltI c tag key), .int .i64 0]) ∧ Keeps w w' (fun _ => False) := by
  have hK := fun W (k : Keeps w W (fun _ => False)) => skeyed_any (hA.keeps k (fun _ _ _ e => e)) hF h key hk
  have hS := fun W (k : Keeps w W (fun _ => False)) => sslot_any (hA.keeps k (fun _ _ _ e => e)) hF h (hT.kp (k.below (Nat.le_refl _) (fun _ _ e => e))) tag key h0 h1 hk
  unfold statS at hK
  generalize sltI c tag key = sl at *
  clear hA h hT hk
  generalize f 0 = f0 at *
  generalize f 1 = f1 at *
  generalize f 2 = f2 at *
  generalize f 3 = f3 at *
  go_enter Tryz.func34, Tryz.ntmps34
  go_wp2_with fail
  refine alloc1 (P := fun W => Calls _ _ _ W _) fun W0 hb hz K0 => ?_
  (with_reducible refine (hK _ K0).mono ?_)
  rintro r w1 ⟨rfl, k1⟩
  have K1 : Keeps w w1 (fun _ => False) := K0.trans k1 (fun _ _ e => e)
  have k2 : Keeps w1 (w1.alloc (.cells #[.int .i64 f3, .int .i64 f1, .int .i64 f2, .bool (f0 == 3)] 51)) (fun _ => False) := (Keeps.refl _ _).alloc _
  obtain ⟨c0, c1, c2, c3, c4, c5, c6, c7, c8, c9, c10⟩ := c11_of (k2.blk (k1.blk hb))
  have K2 : Keeps w (w1.alloc (.cells #[.int .i64 f3, .int .i64 f1, .int .i64 f2, .bool (f0 == 3)] 51)) (fun _ => False) := K1.trans k2 (fun _ _ e => e)
  have hS2 := hS _ K2
  clear hK hS
  go_wp2_with fail
  (with_reducible refine hS2.mono ?_)
  rintro r w3 ⟨rfl, k3⟩
  have K3 : Keeps w w3 (fun _ => False) := K2.trans k3 (fun _ _ e => e)
  clear hS2 c0 c1 c2 c3 c4 c5 c6 c7 c8 c9 c10
  go_wp2_with fail
  go_ret2
  exact ⟨rfl, K3⟩

set_option maxRecDepth 100000 in
set_option maxHeartbeats 1000000 in
/-- Cell, of a slot that is there. -/
theorem scell_yes (hA : Arena w p F d) (hF : d.Fine) (h : SmD d l off f c) (s : Nat) (hs : s < 8) :
    Calls Tryz.prog 21 #[.agg #[.pointer (some ⟨p, 0, none⟩), .int .i64 l.k, .int .i64 l.e, .int .i64 l.a, .int .i64 l.b, .int .i64 l.c, .int .i64 l.eo, .int .i64 l.bo, .int .i64 l.s, .int .i64 l.g, .int .i64 (off : Int)], .int .i64 (s : Int)] w fun e w' => CellPost w (c s) 0 e w' := by
  have ho := h.off_le hF
  have hv := valid_more h.grp.valid
  have hSt := fun W (k : Keeps w W (fun _ => False)) => sstat_sm (hA.keeps k (fun _ _ _ e => e)) hF h
  have hG := fun W => sgroup_any p l (off : Int) W (by omega) (by omega)
  have hCe := fun W (k : Keeps w W (fun _ => False)) => cell_any (hA.keeps k (fun _ _ _ e => e)) hF l ((off + 32 : Nat) : Int) (s : Int) (fitsI_mk (by omega) (by omega)) (fitsI_mk (by omega) (by omega))
  rw [h.grp.cell hs] at hCe
  rw [show ((off + 32 : Nat) : Int) = (off : Int) + 32 from rfl] at hCe
  generalize c s = x at *
  generalize (off : Int) + 32 = y at *
  clear hA h hv
  unfold statS at hSt
  unfold CellPost at *
  unfold GC.val at *
  generalize f 0 = f0 at *
  generalize f 1 = f1 at *
  generalize f 2 = f2 at *
  generalize f 3 = f3 at *
  go_enter Tryz.func21, Tryz.ntmps21
  go_wp2_with fail
  refine alloc2 (P := fun W => Calls _ _ _ W _) fun W0 hb hr hz K0 => ?_
  (with_reducible refine (hSt _ K0).mono ?_)
  rintro r w1 ⟨rfl, k1⟩
  have K1 : Keeps w w1 (fun _ => False) := K0.trans k1 (fun _ _ e => e)
  have k2 : Keeps w1 (w1.alloc (.cells #[.int .i64 f3, .int .i64 f1, .int .i64 f2, .bool (f0 == 3)] 51)) (fun _ => False) := (Keeps.refl _ _).alloc _
  obtain ⟨c0, c1, c2, c3, c4, c5, c6, c7, c8, c9, c10⟩ := c11_of (k2.blk (k1.blk hb))
  have hr2 := k2.blk (k1.blk hr)
  have K2 : Keeps w (w1.alloc (.cells #[.int .i64 f3, .int .i64 f1, .int .i64 f2, .bool (f0 == 3)] 51)) (fun _ => False) := K1.trans k2 (fun _ _ e => e)
  clear hSt
  go_wp2_with fail
  (with_reducible refine (hG _).mono ?_)
  rintro r w3 ⟨rfl, k3⟩
  have hr3 := k3.blk hr2
  have K3 : Keeps w w3 (fun _ => False) := K2.trans k3 (fun _ _ e => e)
  have hCe4 := hCe _ K3
  clear hG hCe c0 c1 c2 c3 c4 c5 c6 c7 c8 c9 c10
  go_wp2_with fail
  (with_reducible refine hCe4.mono ?_)
  rintro r w5 ⟨rfl, k5⟩
  have hr5 := k5.blk hr3
  have K5 : Keeps w w5 (fun _ => False) := K3.trans k5 (fun _ _ e => e)
  obtain ⟨d0, d1, d2, d3, d4, f0, f1, f2, f3, f4⟩ := five_cells hr5
  clear hCe4
  go_wp2_with fail
  refine five_set hr5 K5 (fun h => by omega) (P := fun w9 => bodyPost _ _ _ _ _ w9) fun w9 h9 k9 _ => ?_
  obtain ⟨e0, e1, e2, e3, e4, -⟩ := five_cells h9
  exact bodyPost_ret (v := .tuple #[.agg #[.int .i64 x.kind, .int .i64 x.tag, .string x.key, .string x.elem, .int .i64 x.birth], .int .i64 0]) (by simp [results, Tryz.results21, go_sem, e0, e1, e2, e3, e4]) rfl ⟨rfl, k9⟩

set_option maxRecDepth 100000 in
set_option maxHeartbeats 1000000 in
/-- Get: the key's cell; a cell of zeros: there is none. -/
theorem sget_any (hA : Arena w p F d) (hF : d.Fine) (h : SmD d l off f c) (hT : TabAt w) (tag : Int) (key : ByteArray) (h0 : 0 ≤ tag) (h1 : tag ≤ 127) (hk : (key.size : Int) = l.k) :
    Calls Tryz.prog 35 #[.agg #[.pointer (some ⟨p, 0, none⟩), .int .i64 l.k, .int .i64 l.e, .int .i64 l.a, .int .i64 l.b, .int .i64 l.c, .int .i64 l.eo, .int .i64 l.bo, .int .i64 l.s, .int .i64 l.g, .int .i64 (off : Int)], .int .i64 tag, .string key] w fun e w' => CellPost w (if low (mtC c tag key) 8 = 8 then GC.zero else c (low (mtC c tag key) 8)) 0 e w' := by
  have ho := h.off_le hF
  have hv := valid_more h.grp.valid
  have hFi := fun W (k : Keeps w W (fun _ => False)) => sfind_any (hA.keeps k (fun _ _ _ e => e)) hF h (hT.kp (k.below (Nat.le_refl _) (fun _ _ e => e))) tag key h0 h1 hk
  have hG := fun W => sgroup_any p l (off : Int) W (by omega) (by omega)
  have hle : low (mtC c tag key) 8 ≤ 8 := (low_spec (mtC c tag key) 8 (Nat.le_refl _)).1
  unfold sltI at hFi
  have hCe : ∀ s, s < 8 → ∀ W (k : Keeps w W (fun _ => False)), _ := fun s hs W (k : Keeps w W (fun _ => False)) => cell_any (hA.keeps k (fun _ _ _ e => e)) hF l ((off + 32 : Nat) : Int) (s : Int) (fitsI_mk (by omega) (by omega)) (fitsI_mk (by omega) (by omega))
  by_cases h8 : low (mtC c tag key) 8 = 8
  · rw [if_pos h8]
    rw [if_pos h8] at hFi
    clear hA h hv hT hCe hG hle h8
    unfold CellPost at *
    unfold GC.val GC.zero at *
    go_enter Tryz.func35, Tryz.ntmps35
    go_wp2_with fail
    refine alloc2 (P := fun W => Calls _ _ _ W _) fun W0 hb hr hz K0 => ?_
    (with_reducible refine (hFi _ K0).mono ?_)
    rintro r w1 ⟨rfl, k1⟩
    have K1 : Keeps w w1 (fun _ => False) := K0.trans k1 (fun _ _ e => e)
    have hr1 := k1.blk hr
    obtain ⟨d0, d1, d2, d3, d4, f0, f1, f2, f3, f4⟩ := five_cells hr1
    clear hFi
    go_wp2_with fail
    refine five_set hr1 K1 (fun h => by omega) (P := fun w9 => bodyPost _ _ _ _ _ w9) fun w9 h9 k9 _ => ?_
    obtain ⟨e0, e1, e2, e3, e4, -⟩ := five_cells h9
    exact bodyPost_ret (v := .tuple #[.agg #[.int .i64 0, .int .i64 0, .string ⟨#[]⟩, .string ⟨#[]⟩, .int .i64 0], .int .i64 0]) (by simp [results, Tryz.results35, go_sem, e0, e1, e2, e3, e4]) rfl ⟨rfl, k9⟩
  · rw [if_neg h8]
    rw [if_neg h8] at hFi
    have hs : low (mtC c tag key) 8 < 8 := by omega
    have hCs := hCe _ hs
    rw [h.grp.cell hs] at hCs
    rw [show ((off + 32 : Nat) : Int) = (off : Int) + 32 from rfl] at hCs
    generalize c (low (mtC c tag key) 8) = x at *
    generalize (off : Int) + 32 = y at *
    have hnn : ¬ ((low (mtC c tag key) 8 : Nat) : Int) < 0 := by omega
    generalize ((low (mtC c tag key) 8 : Nat) : Int) = lw at *
    clear hA h hv hT hCe hle h8 hs
    unfold CellPost at *
    unfold GC.val at *
    go_enter Tryz.func35, Tryz.ntmps35
    go_wp2_with fail
    refine alloc2 (P := fun W => Calls _ _ _ W _) fun W0 hb hr hz K0 => ?_
    (with_reducible refine (hFi _ K0).mono ?_)
    rintro r w1 ⟨rfl, k1⟩
    have K1 : Keeps w w1 (fun _ => False) := K0.trans k1 (fun _ _ e => e)
    have hr1 := k1.blk hr
    obtain ⟨c0, c1, c2, c3, c4, c5, c6, c7, c8, c9, c10⟩ := c11_of (k1.blk hb)
    clear hFi
    go_wp2_with fail
    (with_reducible refine (hG _).mono ?_)
    rintro r w3 ⟨rfl, k3⟩
    have hr3 := k3.blk hr1
    have K3 : Keeps w w3 (fun _ => False) := K1.trans k3 (fun _ _ e => e)
    have hC4 := hCs _ K3
    clear hG hCs c0 c1 c2 c3 c4 c5 c6 c7 c8 c9 c10
    go_wp2_with fail
    (with_reducible refine hC4.mono ?_)
    rintro r w5 ⟨rfl, k5⟩
    have hr5 := k5.blk hr3
    have K5 : Keeps w w5 (fun _ => False) := K3.trans k5 (fun _ _ e => e)
    obtain ⟨d0, d1, d2, d3, d4, f0, f1, f2, f3, f4⟩ := five_cells hr5
    clear hC4
    go_wp2_with fail
    refine five_set hr5 K5 (fun h => by omega) (P := fun w9 => bodyPost _ _ _ _ _ w9) fun w9 h9 k9 _ => ?_
    obtain ⟨e0, e1, e2, e3, e4, -⟩ := five_cells h9
    exact bodyPost_ret (v := .tuple #[.agg #[.int .i64 x.kind, .int .i64 x.tag, .string x.key, .string x.elem, .int .i64 x.birth], .int .i64 0]) (by simp [results, Tryz.results35, go_sem, e0, e1, e2, e3, e4]) rfl ⟨rfl, k9⟩
end
end Go.Proofs.YtgckinldnnckoaaGreatDoor
/-
  small: empty, Put, Delete.
-/
namespace Go.Proofs.YtgckinldnnckoaaGreatDoor
open Go.RowKit Go.Shelf Ly Ct
set_option linter.unusedVariables false
/-- The lowest empty slot; 8: none. -/
def empL (c : Nat → GC) : Nat := low (fun i => decide ((c i).kind = 0)) 8
def empI (c : Nat → GC) : Int := if empL c = 8 then -1 else ((empL c : Nat) : Int)
section
variable {w : World} {p : Nat} {F : Nat → Prop} {d : AD} {l : Lay} {off : Nat} {f : Nat → Int} {c : Nat → GC}

set_option maxRecDepth 100000 in
set_option maxHeartbeats 2000000 in
theorem sempty_any (hA : Arena w p F d) (hF : d.Fine) (h : SmD d l off f c) :
    Calls Tryz.prog 62 #[.agg #[.pointer (some ⟨p, 0, none⟩), .int .i64 l.k, .int .i64 l.e, .int .i64 l.a, .int .i64 l.b, .int .i64 l.c, .int .i64 l.eo, .int .i64 l.bo, .int .i64 l.s, .int .i64 l.g, .int .i64 (off : Int)]] w fun e w' => e = .returned (.int .i64 (empI c)) ∧ Keeps w w' (fun _ => False) := by
  have ho := h.off_le hF
  have hv := valid_more h.grp.valid
  have hG := fun W => sgroup_any p l (off : Int) W (by omega) (by omega)
  have HC : Hid (∀ s : Nat, s < 8 → ∀ W (k : Keeps w W (fun _ => False)), Calls Tryz.prog 50 #[.agg #[.pointer (some ⟨p, 0, none⟩), .int .i64 l.k, .int .i64 l.e, .int .i64 l.a, .int .i64 l.b, .int .i64 l.c, .int .i64 l.eo, .int .i64 l.bo, .int .i64 l.s, .int .i64 l.g, .int .i64 ((off : Int) + 32)], .int .i64 (s : Int)] W fun e w' => CellPost W (c s) 0 e w') := fun s hs W k => by
    have := cell_any (hA.keeps k (fun _ _ _ e => e)) hF l ((off + 32 : Nat) : Int) (s : Int) (fitsI_mk (by omega) (by omega)) (fitsI_mk (by omega) (by omega))
    rw [h.grp.cell hs] at this
    exact this
  have HY : Hid (∀ i, i < 8 → (c i).kind = 0 → (∀ j, j < i → ¬ (c j).kind = 0) → empI c = (i : Int)) := fun i hi h0 hn => by
    have : empL c = i := low_is hi (decide_eq_true h0) (fun z hz => decide_eq_false (hn z hz))
    unfold empI
    rw [this, if_neg (by omega)]
  have HN : Hid ((∀ j, j < 8 → ¬ (c j).kind = 0) → empI c = -1) := fun hn => by
    have : empL c = 8 := low_none (fun z hz => decide_eq_false (hn z hz))
    unfold empI
    rw [this, if_pos rfl]
  generalize empI c = E at *
  clear hA h hv ho
  generalize (off : Int) + 32 = y at *
  go_enter Tryz.func62, Tryz.ntmps62
  go_wp2_with fail
  refine alloc1 (P := fun W => Calls _ _ _ W _) fun W0 hb hz K0 => ?_
  (with_reducible refine (hG _).mono ?_)
  rintro r w1 ⟨rfl, k1⟩
  have K1 : Keeps w w1 (fun _ => False) := K0.trans k1 (fun _ _ e => e)
  clear hG hb
  go_upto_region 2 with fail
  refine alloc1 (P := fun W => Code.wp _ _ _ _ W) fun W2 hb2 hz2 k2 => ?_
  have HB2 := hide hb2
  have K2 := hide (K1.trans k2 (fun _ _ e => e))
  clear hb2 hz2 k2 k1 K1 K0 hz
  generalize w1.heap.size = B at *
  go_wp2_with fail
  go_loopw [9] (fun v9 wr => ∃ i : Nat, v9 = .int .i64 (i : Int) ∧ i ≤ 8 ∧ Keeps W2 wr (fun _ => False) ∧ Hid (∀ j, j < i → ¬ (c j).kind = 0)) (fun v9 _ => 8 - (intOf v9).toNat)
  case atStart => exact ⟨0, rfl, Nat.zero_le _, Keeps.refl _ _, fun j hj => absurd hj (Nat.not_lt_zero _)⟩
  case round =>
    obtain ⟨i, rfl, hi, K, HI⟩ := hrel
    by_cases hlt : i < 8
    · have hlt' : (i : Int) < 8 := by omega
      obtain ⟨b0, b1, b2, b3, b4, b5, b6, b7, b8, b9, b10⟩ := grp_cells (K.blk HB2.out)
      have hC := HC.out i hlt wr (K2.out.trans K (fun _ _ e => e))
      have HY1 := hide (HY.out i hlt)
      have Hms : Hid (8 - (i + 1) < 8 - i) := by show 8 - (i + 1) < 8 - i; omega
      have HK := hide K
      have hw1 : wrap64 ((i : Int) + 1) = (i : Int) + 1 := by unfold wrap64; omega
      have Hnx : Hid (¬ (c i).kind = 0 → ∀ j, j < i + 1 → ¬ (c j).kind = 0) := fun hn j hj => by
        by_cases e : j = i
        · rw [e]; exact hn
        · exact HI.out j (by omega)
      have Hi : Hid (i + 1 ≤ 8) := hlt
      have hw := hide hw1
      clear K hi hw1
      generalize c i = x at *
      unfold CellPost GC.val at hC
      obtain ⟨xk, xt, xy, xe, xb⟩ := x
      dsimp only at *
      go_wp2_with fail
      (with_reducible refine hC.mono ?_)
      rintro r w3 ⟨rfl, k3⟩
      have K3 := hide (HK.out.trans k3 (fun _ _ e => e))
      clear hC b0 b1 b2 b3 b4 b5 b6 b7 b8 b9 b10
      go_upto_region 6 with fail
      refine alloc1 (P := fun W => Code.wp _ _ _ _ W) fun W4 hb4 hz4 k4 => ?_
      have K4 := hide (K3.out.trans k4 (fun _ _ e => e))
      obtain ⟨d0, d1, d2, d3, d4, -⟩ := five_cells hb4
      clear hb4 hz4 k4 k3
      by_cases hx : xk = 0
      · subst hx
        have e : E = (i : Int) := HY1.out rfl HI.out
        subst e
        go_wp2_with fail
        go_ret
        exact ⟨rfl, K2.out.trans K4.out (fun _ _ e => e)⟩
      · have hx' : (xk == 0) = false := beq_eq_false_iff_ne.2 hx
        have HI2 := hide (Hnx.out hx)
        have a6 := hw.out
        clear hx
        go_wp2_with fail
        go_roundw
        case rel => exact ⟨i + 1, by go_num, Hi.out, K4.out, HI2.out⟩
        case measure => simp [intOf]; omega
    · obtain rfl : i = 8 := by omega
      have e : E = -1 := HN.out HI.out
      subst e
      have HK := hide K
      clear K
      go_wp2_with fail
      go_ret
      exact ⟨rfl, K2.out.trans HK.out (fun _ _ e => e)⟩
theorem Touch.wide {d d' : AD} {o n o' n' : Nat} (h : Touch d d' o n) (h1 : o' ≤ o) (h2 : o + n ≤ o' + n') : Touch d d' o' n' := ⟨h.data, h.len, fun j hj => h.out j (by omega)⟩
/-- What a call leaves that turns a small one. -/
def SmT (w w' : World) (p : Nat) (F : Nat → Prop) (d : AD) (l : Lay) (off : Nat) (f : Nat → Int) (c : Nat → GC) : Prop := ∃ d', Turned w w' p F d' ∧ Touch d d' off (32 + l.g.toNat) ∧ SmD d' l off f c
theorem SmT.same (hA : Arena w p F d) (h : SmD d l off f c) {w' : World} (k : Keeps w w' (fun _ => False)) : SmT w w' p F d l off f c := ⟨d, hA.same k, Touch.refl _ _ _, h⟩
theorem low_full {tag : Int} {key : ByteArray} (h : ¬ low (mtC c tag key) 8 = 8) : low (mtC c tag key) 8 < 8 ∧ (c (low (mtC c tag key) 8)).kind = 2 ∧ (c (low (mtC c tag key) 8)).tag = tag ∧ (c (low (mtC c tag key) 8)).key = key := by
  obtain ⟨h1, h2, -⟩ := low_spec (mtC c tag key) 8 (Nat.le_refl _)
  have hl : low (mtC c tag key) 8 < 8 := by omega
  have := (h2 hl).1
  unfold mtC at this
  exact ⟨hl, of_decide_eq_true this⟩

set_option maxRecDepth 100000 in
set_option maxHeartbeats 2000000 in
/-- Put of a key that is there: its elem is another. -/
theorem sput_old (hA : Arena w p F d) (hF : d.Fine) (hSm : d.small) (hFl : ∀ k, F k → k < w.heap.size) (h : SmD d l off f c) (hT : TabAt w) (tag : Int) (key elem : ByteArray) (birth : Int) (h0 : 0 ≤ tag) (h1 : tag ≤ 127) (hk : (key.size : Int) = l.k) (he : (elem.size : Int) = l.e) (hb0 : 0 ≤ birth) (h8 : ¬ low (mtC c tag key) 8 = 8) :
    Calls Tryz.prog 32 #[.agg #[.pointer (some ⟨p, 0, none⟩), .int .i64 l.k, .int .i64 l.e, .int .i64 l.a, .int .i64 l.b, .int .i64 l.c, .int .i64 l.eo, .int .i64 l.bo, .int .i64 l.s, .int .i64 l.g, .int .i64 (off : Int)], .int .i64 tag, .string key, .string elem, .int .i64 birth] w fun e w' => e = .returned (.tuple #[.int .i64 1, .int .i64 0]) ∧ SmT w w' p F d l off f (updC c (low (mtC c tag key) 8) { c (low (mtC c tag key) 8) with elem := elem }) := by
  have ho := h.off_le hF
  have hv := valid_more h.grp.valid
  obtain ⟨hl8, hk2, -, -⟩ := low_full h8
  have hK := fun W (k : Keeps w W (fun _ => False)) => skeyed_any (hA.keeps k (fun _ _ _ e => e)) hF h key hk
  have hS := fun W (k : Keeps w W (fun _ => False)) => sslot_any (hA.keeps k (fun _ _ _ e => e)) hF h (hT.kp (k.below (Nat.le_refl _) (fun _ _ e => e))) tag key h0 h1 hk
  unfold sltI at hS
  rw [if_neg h8] at hS
  have hG := fun W => sgroup_any p l (off : Int) W (by omega) (by omega)
  have HSE : Hid (∀ W (k : Keeps w W (fun _ => False)), Calls Tryz.prog 61 #[.agg #[.pointer (some ⟨p, 0, none⟩), .int .i64 l.k, .int .i64 l.e, .int .i64 l.a, .int .i64 l.b, .int .i64 l.c, .int .i64 l.eo, .int .i64 l.bo, .int .i64 l.s, .int .i64 l.g, .int .i64 ((off : Int) + 32)], .int .i64 ((low (mtC c tag key) 8 : Nat) : Int), .string elem] W fun e w' => e = .returned (.int .i64 0) ∧ SmT w w' p F d l off f (updC c (low (mtC c tag key) 8) { c (low (mtC c tag key) 8) with elem := elem })) := fun W k => by
    have hcall := gsetElem_any (hA.keeps k (fun _ _ _ e => e)) hF hSm (fun i hi => Nat.lt_of_lt_of_le (hFl i hi) k.size) l ((off + 32 : Nat) : Int) ((low (mtC c tag key) 8 : Nat) : Int) elem (by omega) (fitsI_mk (by omega) (by omega)) (fitsI_mk (by omega) (by omega))
    obtain ⟨r1, r2, r3⟩ := h.grp.setElem hl8 he hk2
    rw [r1] at hcall
    refine hcall.mono ?_
    rintro e w' ⟨rfl, hT⟩
    exact ⟨rfl, _, Turned.pre k hT, r3.wide (by omega) (by omega), h.turn r2 r3⟩
  have heb : (((elem.size : Nat) : Int) != l.e) = false := by simp [he]
  have hb' : ¬ birth < 0 := by omega
  have hn0 : (0 : Int) ≤ ((low (mtC c tag key) 8 : Nat) : Int) := by omega
  obtain ⟨cc, hcc⟩ : ∃ cc, updC c (low (mtC c tag key) 8) { c (low (mtC c tag key) 8) with elem := elem } = cc := ⟨_, rfl⟩
  rw [hcc] at HSE ⊢
  obtain ⟨ff, hff⟩ : ∃ ff, f = ff := ⟨_, rfl⟩
  generalize ((low (mtC c tag key) 8 : Nat) : Int) = lw at *
  unfold statS at hK
  clear hA h hv hT hcc h8 hl8 hk2 hk he hb0 ho
  generalize (off : Int) + 32 = y at *
  rw [hff] at HSE hK ⊢
  clear hff
  generalize ff 0 = f0 at *
  generalize ff 1 = f1 at *
  generalize ff 2 = f2 at *
  generalize ff 3 = f3 at *
  go_enter Tryz.func32, Tryz.ntmps32
  go_wp2_with fail
  refine alloc1 (P := fun W => Calls _ _ _ W _) fun W0 hb hz K0 => ?_
  (with_reducible refine (hK _ K0).mono ?_)
  rintro r w1 ⟨rfl, k1⟩
  have K1 : Keeps w w1 (fun _ => False) := K0.trans k1 (fun _ _ e => e)
  have k2 : Keeps w1 (w1.alloc (.cells #[.int .i64 f3, .int .i64 f1, .int .i64 f2, .bool (f0 == 3)] 51)) (fun _ => False) := (Keeps.refl _ _).alloc _
  have hb2 := k2.blk (k1.blk hb)
  obtain ⟨c0, c1, c2, c3, c4, c5, c6, c7, c8, c9, c10⟩ := c11_of hb2
  have K2 : Keeps w (w1.alloc (.cells #[.int .i64 f3, .int .i64 f1, .int .i64 f2, .bool (f0 == 3)] 51)) (fun _ => False) := K1.trans k2 (fun _ _ e => e)
  have hS2 := hS _ K2
  clear hK hS
  go_wp2_with fail
  (with_reducible refine hS2.mono ?_)
  rintro r w3 ⟨rfl, k3⟩
  have K3 : Keeps w w3 (fun _ => False) := K2.trans k3 (fun _ _ e => e)
  obtain ⟨c0, c1, c2, c3, c4, c5, c6, c7, c8, c9, c10⟩ := c11_of (k3.blk hb2)
  clear hS2
  go_wp2_with fail
  (with_reducible refine (hG _).mono ?_)
  rintro r w4 ⟨rfl, k4⟩
  have K4 : Keeps w w4 (fun _ => False) := K3.trans k4 (fun _ _ e => e)
  have hE4 := HSE.out _ K4
  clear hG HSE c0 c1 c2 c3 c4 c5 c6 c7 c8 c9 c10
  go_wp2_with fail
  (with_reducible refine hE4.mono ?_)
  rintro r w5 ⟨rfl, hP⟩
  have HP := hide hP
  clear hE4 hP
  go_wp2_with fail
  go_ret2
  exact ⟨rfl, HP.out⟩

set_option maxRecDepth 100000 in
set_option maxHeartbeats 2000000 in
/-- Put of a key that is not there, all slots taken. -/
theorem sput_room (hA : Arena w p F d) (hF : d.Fine) (h : SmD d l off f c) (hT : TabAt w) (tag : Int) (key elem : ByteArray) (birth : Int) (h0 : 0 ≤ tag) (h1 : tag ≤ 127) (hk : (key.size : Int) = l.k) (he : (elem.size : Int) = l.e) (hb0 : 0 ≤ birth) (h8 : low (mtC c tag key) 8 = 8) (hE : empL c = 8) :
    Calls Tryz.prog 32 #[.agg #[.pointer (some ⟨p, 0, none⟩), .int .i64 l.k, .int .i64 l.e, .int .i64 l.a, .int .i64 l.b, .int .i64 l.c, .int .i64 l.eo, .int .i64 l.bo, .int .i64 l.s, .int .i64 l.g, .int .i64 (off : Int)], .int .i64 tag, .string key, .string elem, .int .i64 birth] w fun e w' => e = .returned (.tuple #[.int .i64 3, .int .i64 0]) ∧ Keeps w w' (fun _ => False) := by
  have hK := fun W (k : Keeps w W (fun _ => False)) => skeyed_any (hA.keeps k (fun _ _ _ e => e)) hF h key hk
  have hS := fun W (k : Keeps w W (fun _ => False)) => sslot_any (hA.keeps k (fun _ _ _ e => e)) hF h (hT.kp (k.below (Nat.le_refl _) (fun _ _ e => e))) tag key h0 h1 hk
  unfold sltI at hS
  rw [if_pos h8] at hS
  have hM := fun W (k : Keeps w W (fun _ => False)) => sempty_any (hA.keeps k (fun _ _ _ e => e)) hF h
  unfold empI at hM
  rw [if_pos hE] at hM
  have heb : (((elem.size : Nat) : Int) != l.e) = false := by simp [he]
  have hb' : ¬ birth < 0 := by omega
  unfold statS at hK
  clear hA h hT h8 hk he hb0 hE
  generalize f 0 = f0 at *
  generalize f 1 = f1 at *
  generalize f 2 = f2 at *
  generalize f 3 = f3 at *
  go_enter Tryz.func32, Tryz.ntmps32
  go_wp2_with fail
  refine alloc1 (P := fun W => Calls _ _ _ W _) fun W0 hb hz K0 => ?_
  (with_reducible refine (hK _ K0).mono ?_)
  rintro r w1 ⟨rfl, k1⟩
  have K1 : Keeps w w1 (fun _ => False) := K0.trans k1 (fun _ _ e => e)
  have k2 : Keeps w1 (w1.alloc (.cells #[.int .i64 f3, .int .i64 f1, .int .i64 f2, .bool (f0 == 3)] 51)) (fun _ => False) := (Keeps.refl _ _).alloc _
  have hb2 := k2.blk (k1.blk hb)
  obtain ⟨c0, c1, c2, c3, c4, c5, c6, c7, c8, c9, c10⟩ := c11_of hb2
  have K2 : Keeps w (w1.alloc (.cells #[.int .i64 f3, .int .i64 f1, .int .i64 f2, .bool (f0 == 3)] 51)) (fun _ => False) := K1.trans k2 (fun _ _ e => e)
  have hS2 := hS _ K2
  clear hK hS
  go_wp2_with fail
  (with_reducible refine hS2.mono ?_)
  rintro r w3 ⟨rfl, k3⟩
  have K3 : Keeps w w3 (fun _ => False) := K2.trans k3 (fun _ _ e => e)
  obtain ⟨c0, c1, c2, c3, c4, c5, c6, c7, c8, c9, c10⟩ := c11_of (k3.blk hb2)
  have hM3 := hM _ K3
  clear hS2 hM
  go_wp2_with fail
  (with_reducible refine hM3.mono ?_)
  rintro r w4 ⟨rfl, k4⟩
  have K4 : Keeps w w4 (fun _ => False) := K3.trans k4 (fun _ _ e => e)
  clear hM3 c0 c1 c2 c3 c4 c5 c6 c7 c8 c9 c10
  go_wp2_with fail
  go_ret2
  exact ⟨rfl, K4⟩
end
end Go.Proofs.YtgckinldnnckoaaGreatDoor
