import Derived.Laws.BitsLemmas
import Derived.Test.YtgckinldnnckoaaGreatDoorUn13
/-
  small's law: a Bench in its block; key, place.
-/
namespace Go.Proofs.YtgckinldnnckoaaGreatDoor
open Go.RowKit Go.Shelf Ly Ct
set_option linter.unusedVariables false
/-- What stands in a Bench. -/
structure BC (cs : Array Value) (p : Nat) (l : Lay) (off q seed : Nat) (c : Nat → GC) (ad : Int) : Prop where
  size : cs.size = 67
  lk : cs[1]? = some (.int .i64 l.k)
  le : cs[2]? = some (.int .i64 l.e)
  orc : cs[10]? = some (.pointer (some ⟨q, 0, none⟩))
  s0 : cs[11]? = some (.pointer (some ⟨p, 0, none⟩))
  s1 : cs[12]? = some (.int .i64 l.k)
  s2 : cs[13]? = some (.int .i64 l.e)
  s3 : cs[14]? = some (.int .i64 l.a)
  s4 : cs[15]? = some (.int .i64 l.b)
  s5 : cs[16]? = some (.int .i64 l.c)
  s6 : cs[17]? = some (.int .i64 l.eo)
  s7 : cs[18]? = some (.int .i64 l.bo)
  s8 : cs[19]? = some (.int .i64 l.s)
  s9 : cs[20]? = some (.int .i64 l.g)
  s10 : cs[21]? = some (.int .i64 (off : Int))
  sd : cs[24]? = some (.int .u64 (seed : Int))
  cell : ∀ i, i < 8 → cs[26 + i * 5]? = some (.int .i64 (c i).kind) ∧ cs[26 + i * 5 + 1]? = some (.int .i64 (c i).tag) ∧ cs[26 + i * 5 + 2]? = some (.string (c i).key) ∧ cs[26 + i * 5 + 3]? = some (.string (c i).elem) ∧ cs[26 + i * 5 + 4]? = some (.int .i64 (c i).birth)
  ad : cs[66]? = some (.int .i64 ad)
def BN (b p : Nat) (l : Lay) (off q seed : Nat) (c : Nat → GC) (ad : Int) (W : World) : Prop := ∃ cs, W.heap[b]? = some (.cells cs 46) ∧ BC cs p l off q seed c ad
theorem cellA {W : World} {b : Nat} {cs : Array Value} {t : TypeId} (h : W.heap[b]? = some (.cells cs t)) {j : Nat} {v : Value} (hv : cs[j]? = some v) : W.cell? ⟨b, j, none⟩ = some v := by
  simp [World.cell?, h, hv]
section
variable {b p : Nat} {l : Lay} {off q seed : Nat} {c : Nat → GC} {ad : Int} {W W' : World}
theorem BN.keeps (h : BN b p l off q seed c ad W) {S : Nat → Prop} (k : Keeps W W' S) (hS : ¬ S b) : BN b p l off q seed c ad W' := by
  obtain ⟨cs, h1, h2⟩ := h
  exact ⟨cs, (k.block b (heap_lt h1) hS).trans h1, h2⟩
theorem BN.at (h : BN b p l off q seed c ad W) {i : Nat} (hi : i < 8) : W.cell? ⟨b, 26 + i * 5, none⟩ = some (.int .i64 (c i).kind) ∧ W.cell? ⟨b, 26 + i * 5 + 1, none⟩ = some (.int .i64 (c i).tag) ∧ W.cell? ⟨b, 26 + i * 5 + 2, none⟩ = some (.string (c i).key) ∧ W.cell? ⟨b, 26 + i * 5 + 3, none⟩ = some (.string (c i).elem) ∧ W.cell? ⟨b, 26 + i * 5 + 4, none⟩ = some (.int .i64 (c i).birth) := by
  obtain ⟨cs, h1, h2⟩ := h
  obtain ⟨a0, a1, a2, a3, a4⟩ := h2.cell i hi
  exact ⟨cellA h1 a0, cellA h1 a1, cellA h1 a2, cellA h1 a3, cellA h1 a4⟩
theorem BN.small (h : BN b p l off q seed c ad W) : W.cell? ⟨b, 11, none⟩ = some (.pointer (some ⟨p, 0, none⟩)) ∧ W.cell? ⟨b, 12, none⟩ = some (.int .i64 l.k) ∧ W.cell? ⟨b, 13, none⟩ = some (.int .i64 l.e) ∧ W.cell? ⟨b, 14, none⟩ = some (.int .i64 l.a) ∧ W.cell? ⟨b, 15, none⟩ = some (.int .i64 l.b) ∧ W.cell? ⟨b, 16, none⟩ = some (.int .i64 l.c) ∧ W.cell? ⟨b, 17, none⟩ = some (.int .i64 l.eo) ∧ W.cell? ⟨b, 18, none⟩ = some (.int .i64 l.bo) ∧ W.cell? ⟨b, 19, none⟩ = some (.int .i64 l.s) ∧ W.cell? ⟨b, 20, none⟩ = some (.int .i64 l.g) ∧ W.cell? ⟨b, 21, none⟩ = some (.int .i64 (off : Int)) := by
  obtain ⟨cs, h1, h2⟩ := h
  exact ⟨cellA h1 h2.s0, cellA h1 h2.s1, cellA h1 h2.s2, cellA h1 h2.s3, cellA h1 h2.s4, cellA h1 h2.s5, cellA h1 h2.s6, cellA h1 h2.s7, cellA h1 h2.s8, cellA h1 h2.s9, cellA h1 h2.s10⟩
theorem BN.nums (h : BN b p l off q seed c ad W) : W.cell? ⟨b, 1, none⟩ = some (.int .i64 l.k) ∧ W.cell? ⟨b, 2, none⟩ = some (.int .i64 l.e) ∧ W.cell? ⟨b, 10, none⟩ = some (.pointer (some ⟨q, 0, none⟩)) ∧ W.cell? ⟨b, 24, none⟩ = some (.int .u64 (seed : Int)) ∧ W.cell? ⟨b, 66, none⟩ = some (.int .i64 ad) := by
  obtain ⟨cs, h1, h2⟩ := h
  exact ⟨cellA h1 h2.lk, cellA h1 h2.le, cellA h1 h2.orc, cellA h1 h2.sd, cellA h1 h2.ad⟩
end
/-- Is slot i full with that key? -/
def mkC (c : Nat → GC) (key : ByteArray) (i : Nat) : Bool := decide ((c i).kind = 2 ∧ (c i).key = key)
def vcC (c : Nat → GC) (i : Nat) : Bool := decide (¬ (c i).kind = 2)
def lowI (M : Nat → Bool) (f : Nat) : Int := if low M f = 8 then -1 else ((low M f : Nat) : Int)
theorem low_bound (M : Nat → Bool) (f : Nat) (hf : f ≤ 8) : low M f ≤ 8 := (low_spec M f hf).1
theorem lowI_step (M : Nat → Bool) {i : Nat} (hi : i < 8) : lowI M (8 - i) = if M i = true then (i : Int) else lowI M (7 - i) := by
  unfold lowI
  obtain ⟨f, hf⟩ : ∃ f, 8 - i = f + 1 := ⟨7 - i, by omega⟩
  have hf2 : 7 - i = f := by omega
  rw [hf, hf2]
  have e : 7 - f = i := by omega
  rw [low, e]
  by_cases hM : M i = true
  · rw [if_pos hM, if_pos hM, if_neg (by omega)]
  · rw [if_neg hM, if_neg hM]
theorem low_step8 (M : Nat → Bool) {i : Nat} (hi : i < 8) : low M (8 - i) = if M i = true then i else low M (7 - i) := by
  obtain ⟨f, hf⟩ : ∃ f, 8 - i = f + 1 := ⟨7 - i, by omega⟩
  have hf2 : 7 - i = f := by omega
  rw [hf, hf2]
  have e : 7 - f = i := by omega
  rw [low, e]

set_option maxRecDepth 100000 in
set_option maxHeartbeats 4000000 in
theorem splace_any {b p : Nat} {l : Lay} {off q seed : Nat} {c : Nat → GC} {ad : Int} {w : World} (h : BN b p l off q seed c ad w) (key : ByteArray) :
    Calls Tryz.prog 30 #[.pointer (some ⟨b, 0, none⟩), .string key] w fun e w' => e = .returned (.tuple #[.int .i64 (lowI (mkC c key) 8), .int .i64 ((low (vcC c) 8 : Nat) : Int)]) ∧ w' = w := by
  have HC := hide (fun i (hi : i < 8) => h.at hi)
  clear h
  go_enter Tryz.func30, Tryz.ntmps30
  go_wp2_with fail
  go_loopw [6, 7, 8] (fun v6 v7 v8 wr => ∃ k : Nat, v8 = .int .i64 ((k : Int) - 1) ∧ k ≤ 8 ∧ v6 = .int .i64 (lowI (mkC c key) (8 - k)) ∧ v7 = .int .i64 ((low (vcC c) (8 - k) : Nat) : Int) ∧ wr = w) (fun _ _ v8 _ => (intOf v8 + 1).toNat)
  case atStart => exact ⟨8, rfl, Nat.le_refl _, rfl, rfl, rfl⟩
  case round =>
    obtain ⟨k, rfl, hk, rfl, rfl, rfl⟩ := hrel
    by_cases hk0 : k = 0
    · subst hk0
      have hlt : ¬ (0 : Int) ≤ ((0 : Nat) : Int) - 1 := by omega
      go_wp2_with fail
      go_ret2
      exact ⟨rfl, by trivial⟩
    · obtain ⟨i, rfl⟩ : ∃ i, k = i + 1 := ⟨k - 1, by omega⟩
      have hi : i < 8 := by omega
      have e1 : ((i + 1 : Nat) : Int) - 1 = (i : Int) := by omega
      rw [e1]
      have h0 : (0 : Int) ≤ (i : Int) := by omega
      have hi8 : (i : Int) < 8 := by omega
      obtain ⟨a0, a1, a2, a3, a4⟩ := HC.out i hi
      have s1 := lowI_step (mkC c key) hi
      have s2 := low_step8 (vcC c) hi
      rw [show 8 - (i + 1) = 7 - i by omega]
      have Hi : Hid (i ≤ 8) := by show i ≤ 8; omega
      clear e1 hk hk0
      by_cases hx : (c i).kind = 2
      · have hV : vcC c i = false := decide_eq_false (fun q => q hx)
        rw [hV, if_neg (by decide)] at s2
        rw [hx] at a0
        by_cases hy : (c i).key = key
        · have hM : mkC c key i = true := decide_eq_true ⟨hx, hy⟩
          rw [hM, if_pos rfl] at s1
          rw [hy] at a2
          have hyb : (key.toList == key.toList) = true := by simp
          have S := hide (And.intro s1 s2)
          clear s1 s2 hx hy hV hM a1 a3 a4
          go_wp2_with fail
          go_roundw
          case rel => exact ⟨i, rfl, Hi.out, by rw [S.out.1], by rw [S.out.2], by trivial⟩
          case measure => simp [intOf]
        · have hM : mkC c key i = false := decide_eq_false (fun q => hy q.2)
          rw [hM, if_neg (by decide)] at s1
          have hyb : ((c i).key.toList == key.toList) = false := by
            rw [beq_eq_false_iff_ne]
            exact fun e => hy (str_eq e)
          have S := hide (And.intro s1 s2)
          clear s1 s2 hx hy hV hM a1 a3 a4
          generalize (c i).key = ck at *
          go_wp2_with fail
          go_roundw
          case rel => exact ⟨i, rfl, Hi.out, by rw [S.out.1], by rw [S.out.2], by trivial⟩
          case measure => simp [intOf]
      · have hV : vcC c i = true := decide_eq_true hx
        have hM : mkC c key i = false := decide_eq_false (fun q => hx q.1)
        rw [hV, if_pos rfl] at s2
        rw [hM, if_neg (by decide)] at s1
        have hxb : ((c i).kind == 2) = false := beq_eq_false_iff_ne.2 hx
        have hxn : ((c i).kind != 2) = true := by simp [hx]
        have S := hide (And.intro s1 s2)
        clear s1 s2 hx hV hM a1 a2 a3 a4
        generalize (c i).kind = ck at *
        go_wp2_with fail
        go_roundw
        case rel => exact ⟨i, rfl, Hi.out, by rw [S.out.1], by rw [S.out.2], by trivial⟩
        case measure => simp [intOf]
end Go.Proofs.YtgckinldnnckoaaGreatDoor
/-
  Blocks and cells that stay.
-/
namespace Go.Proofs.YtgckinldnnckoaaGreatDoor
open Go.RowKit Go.Shelf
set_option linter.unusedVariables false

theorem keeps_cell {W W1 : World} {q j : Nat} {v : Value} {S : Nat → Prop} (k : Keeps W W1 S) (hS : ¬ S q) (e : W.cell? ⟨q, j, none⟩ = some v) : W1.cell? ⟨q, j, none⟩ = some v := by
  have : q < W.heap.size := by
    refine Nat.lt_of_not_le fun hn => ?_
    rw [World.cell?, Array.getElem?_eq_none hn] at e
    cases e
  exact (World.cell?_of_block (w := W) (a := ⟨q, j, none⟩) (k.block q this hS)).trans e
theorem Keeps.blkS {w w1 : World} {S : Nat → Prop} (h : Keeps w w1 S) {b : Nat} {x : Obj} (hb : w.heap[b]? = some x) (hS : ¬ S b) : w1.heap[b]? = some x := (h.block b (heap_lt hb) hS).trans hb
end Go.Proofs.YtgckinldnnckoaaGreatDoor
/-
  small's law: key.
-/
namespace Go.Proofs.YtgckinldnnckoaaGreatDoor
open Go.RowKit Go.Shelf Ly Ct
set_option linter.unusedVariables false
theorem i64_and15 (n : Int) : bits .and .i64 n 15 = n % 16 := by
  have h15 : (BitVec.ofInt 64 15).toNat = 2 ^ 4 - 1 := by decide
  have key : (BitVec.ofInt 64 n &&& BitVec.ofInt 64 15).toNat = (n % ((2 ^ 64 : Nat) : Int)).toNat % 2 ^ 4 := by
    rw [BitVec.toNat_and, BitVec.toNat_ofInt, h15, Nat.and_two_pow_sub_one_eq_mod]
  show IntKind.i64.wrap ((BitVec.ofInt 64 n &&& BitVec.ofInt 64 15).toNat : Nat) = n % 16
  rw [key, IntKind.wrap_i64]
  omega
/-- The key of a number. -/
def keyK (lk : Int) (n : Int) : ByteArray := strOf (txL (n % 16) lk.toNat)
theorem keyK_size (lk n : Int) (h : 0 ≤ lk) : ((keyK lk n).size : Int) = lk := by
  unfold keyK
  rw [str_size, txL_length]
  omega
theorem tag_facts (hv : Nat) : ∃ tg : Int, tg = ((hv % 128 : Nat) : Int) ∧ ((hv : Nat) : Int).tmod 128 = tg ∧ IntKind.i64.wrap tg = tg ∧ wrap64 tg = tg ∧ IntKind.u64.wrap tg = tg := by
  refine ⟨_, rfl, ?_, ?_, ?_, ?_⟩
  · rw [Int.tmod_eq_emod_of_nonneg (by omega)]; omega
  · rw [IntKind.wrap_i64]; omega
  · unfold wrap64; omega
  · rw [IntKind.wrap_u64]; omega
/-- The tag of a key. -/
def tagF (g : List UInt8 → Option Nat) (seed : Nat) (key : ByteArray) : Nat := Oc.hashN g seed key.data.toList % 128

set_option maxRecDepth 100000 in
set_option maxHeartbeats 4000000 in
theorem skey_any {b p : Nat} {l : Lay} {off q seed : Nat} {c : Nat → GC} {ad : Int} {w : World} (h : BN b p l off q seed c ad w) {m nm : Nat} {g : List UInt8 → Option Nat} (hO : Oc.OrcAt w q m nm g) (hD : Oc.OddAt w) (hs : seed < 18446744073709551616) (h1 : 1 ≤ l.k) (h2 : l.k ≤ 128) (n : Int) (hg : ∀ k x, g k = some x → x < 18446744073709551616) :
    Calls Tryz.prog 29 #[.pointer (some ⟨b, 0, none⟩), .int .i64 n] w fun e w' => e = .returned (.tuple #[.string (keyK l.k n), .int .i64 ((tagF g seed (keyK l.k n) : Nat) : Int)]) ∧ Keeps w w' (fun _ => False) := by
  obtain ⟨a1, a2, a10, a24, a66⟩ := h.nums
  have hx := i64_and15 n
  have hT := fun W => stext_any (n % 16) l.k.toNat W (fitsI_mk (by omega) (by omega)) (by omega)
  rw [show ((l.k.toNat : Nat) : Int) = l.k by omega] at hT
  have hsz := keyK_size l.k n (by omega)
  have hHa := fun W (k : Keeps w W (fun _ => False)) => Oc.hash_any seed (keyK l.k n) W (hO.kp (k.below (Nat.le_refl _) (fun _ _ e => e))) hs (by omega) (hD.kp (k.below (Nat.le_refl _) (fun _ _ e => e))) _ rfl
  have hlt : Oc.hashN g seed (keyK l.k n).data.toList < 18446744073709551616 := by
    cases e : g (keyK l.k n).data.toList with
    | none =>
      rw [Oc.hashN_none e]
      exact Oc.mixN_lt _ _
    | some x =>
      rw [Oc.hashN_some e]
      exact hg _ _ e
  unfold tagF
  have HKK : Hid (strOf (txL (n % 16) l.k.toNat) = keyK l.k n) := rfl
  rw [HKK.out] at hT
  generalize keyK l.k n = ky at *
  generalize hhn : Oc.hashN g seed ky.data.toList = hv at *
  obtain ⟨tg, htg, hr1, hr2, hr3, hr4⟩ := tag_facts hv
  rw [← htg]
  have HRR := hide (And.intro hr1 (And.intro hr2 (And.intro hr3 hr4)))
  clear htg hr1 hr2 hr3 hr4
  generalize n % 16 = n15 at *
  have HR := hide (And.intro a10 a24)
  clear h hO hD hs h1 h2 hg hlt hhn hsz HKK a2 a66
  go_enter Tryz.func29, Tryz.ntmps29
  go_wp2_with fail
  (with_reducible refine (hT _).mono ?_)
  rintro r w1 ⟨rfl, k1⟩
  have c10 := keeps_cell k1 (fun e => e) HR.out.1
  have c24 := keeps_cell k1 (fun e => e) HR.out.2
  have hH1 := hHa _ (k1.drew)
  have HK1 := hide k1
  clear hT hHa a1 a10 a24 hx
  obtain ⟨hr1, hr2, hr3, hr4⟩ := HRR.out
  go_wp2_with fail
  go_region_held3 (fun w' : World => w'.cell? ⟨b, 10, none⟩ = some (.pointer (some ⟨q, 0, none⟩)) ∧ w'.cell? ⟨b, 24, none⟩ = some (.int .u64 (seed : Int))) (first | exact ⟨c10, c24⟩ | assumption) (first | (go_at_call 44; (with_reducible refine hH1.mono ?_); rintro r w2 ⟨rfl, k2⟩; have S2 : (fun w' : World => w'.cell? ⟨b, 10, none⟩ = some (.pointer (some ⟨q, 0, none⟩)) ∧ w'.cell? ⟨b, 24, none⟩ = some (.int .u64 (seed : Int))) w2 := ⟨keeps_cell (Keeps.ofKp k2) (fun e => e) c10, keeps_cell (Keeps.ofKp k2) (fun e => e) c24⟩))
  all_goals (
    have HK2 := hide (HK1.out.drew.trans (Keeps.ofKp k2) (fun _ _ e => e))
    clear hH1 k2
    go_wp2_with fail
    go_ret2
    exact ⟨rfl, HK2.out⟩)
end Go.Proofs.YtgckinldnnckoaaGreatDoor
/-
  small's law: all that stands together; holds.
-/
namespace Go.Proofs.YtgckinldnnckoaaGreatDoor
open Go.RowKit Go.Shelf Ly Ct
set_option linter.unusedVariables false
/-- How many of the first i slots are full. -/
def cntF (c : Nat → GC) : Nat → Nat
  | 0 => 0
  | i + 1 => cntF c i + if (c i).kind = 2 then 1 else 0
theorem cntF_le (c : Nat → GC) : ∀ i, cntF c i ≤ i
  | 0 => Nat.le_refl _
  | i + 1 => by
    have := cntF_le c i
    unfold cntF
    split <;> omega
/-- A small one under a plan, beside the law's own cells. -/
structure SB (w0 : World) (b p : Nat) (l : Lay) (off q m nm seed : Nat) (X : Nat → Prop) (g : List UInt8 → Option Nat) (d : AD) (f : Nat → Int) (c cb : Nat → GC) (ad : Int) (W : World) : Prop where
  own : Own w0 W p X d
  fine : d.Fine
  sml : d.small
  sm : SmD d l off f c
  bn : BN b p l off q seed cb ad W
  orc : Oc.OrcAt W q m nm g
  xb : X b
  xq : X q
  xm : X m
  xl : ∀ k, X k → k < W.heap.size
  f0 : f 0 = 1
  f1 : f 1 = 0
  f2 : f 2 = 0
  f3 : f 3 = ((cntF c 8 : Nat) : Int)
  tags : ∀ i, i < 8 → (c i).kind = 2 → (c i).tag = ((tagF g seed (c i).key : Nat) : Int)
  kinds : ∀ i, i < 8 → c i = GC.zero ∨ (c i).kind = 2
section
variable {w0 : World} {b p : Nat} {l : Lay} {off q m nm seed : Nat} {X : Nat → Prop} {g : List UInt8 → Option Nat} {d : AD} {f : Nat → Int} {c cb : Nat → GC} {ad : Int} {W W' : World}
theorem orc_keeps (h : Oc.OrcAt W q m nm g) {S : Nat → Prop} (k : Keeps W W' S) (h1 : ¬ S q) (h2 : ¬ S m) : Oc.OrcAt W' q m nm g := ⟨(k.block q (heap_lt h.1) h1).trans h.1, h.2.same (k.block m h.2.lt h2)⟩
theorem SB.stay (h : SB w0 b p l off q m nm seed X g d f c cb ad W) (k : Keeps W W' (fun _ => False)) : SB w0 b p l off q m nm seed X g d f c cb ad W' :=
  ⟨h.own.stay k, h.fine, h.sml, h.sm, h.bn.keeps k id, orc_keeps h.orc k id id, h.xb, h.xq, h.xm, fun i hi => Nat.lt_of_lt_of_le (h.xl i hi) k.size, h.f0, h.f1, h.f2, h.f3, h.tags, h.kinds⟩
theorem SB.valid (h : SB w0 b p l off q m nm seed X g d f c cb ad W) : validB l = true := h.sm.grp.valid
end
theorem wr8 {i : Nat} (h : i ≤ 8) : wrap64 ((i : Int) + 1) = (i : Int) + 1 ∧ IntKind.i64.wrap ((i : Int) + 1) = (i : Int) + 1 := by
  constructor
  · unfold wrap64; omega
  · rw [IntKind.wrap_i64]; omega

set_option maxRecDepth 100000 in
set_option maxHeartbeats 8000000 in
theorem sholds_any {w0 : World} {b p : Nat} {l : Lay} {off q m nm seed : Nat} {X : Nat → Prop} {g : List UInt8 → Option Nat} {d : AD} {f : Nat → Int} {c : Nat → GC} {ad : Int} {w : World} (h : SB w0 b p l off q m nm seed X g d f c c ad w) :
    Calls Tryz.prog 8 #[.pointer (some ⟨b, 0, none⟩)] w fun e w' => e = .returned (.bool true) ∧ Keeps w w' (fun _ => False) := by
  have HC : Hid (∀ i, i < 8 → ∀ W, Keeps w W (fun _ => False) → Calls Tryz.prog 21 #[.agg #[.pointer (some ⟨p, 0, none⟩), .int .i64 l.k, .int .i64 l.e, .int .i64 l.a, .int .i64 l.b, .int .i64 l.c, .int .i64 l.eo, .int .i64 l.bo, .int .i64 l.s, .int .i64 l.g, .int .i64 (off : Int)], .int .i64 ((i : Nat) : Int)] W fun e w' => CellPost W (c i) 0 e w') := fun i hi W k => scell_yes (h.own.stay k).here h.fine h.sm i hi
  have HS : Hid (∀ W, Keeps w W (fun _ => False) → Calls Tryz.prog 11 #[.agg #[.pointer (some ⟨p, 0, none⟩), .int .i64 l.k, .int .i64 l.e, .int .i64 l.a, .int .i64 l.b, .int .i64 l.c, .int .i64 l.eo, .int .i64 l.bo, .int .i64 l.s, .int .i64 l.g, .int .i64 (off : Int)]] W fun e w' => e = .returned (.tuple #[.agg #[.int .i64 ((cntF c 8 : Nat) : Int), .int .i64 0, .int .i64 0, .bool false], .int .i64 0]) ∧ Keeps W w' (fun _ => False)) := fun W k => by
    have := sstat_sm (h.own.stay k).here h.fine h.sm
    unfold statS at this
    rw [h.f0, h.f1, h.f2, h.f3] at this
    exact this
  have HB : Hid (∀ W, Keeps w W (fun _ => False) → BN b p l off q seed c ad W) := fun W k => h.bn.keeps k id
  have hNum := fun x W => snum_any x W
  clear h
  go_enter Tryz.func8, Tryz.ntmps8
  go_wp2_with fail
  go_loopw [3, 4] (fun v3 v4 wr => ∃ i : Nat, v4 = .int .i64 (i : Int) ∧ i ≤ 8 ∧ v3 = .int .i64 ((cntF c i : Nat) : Int) ∧ Keeps w wr (fun _ => False)) (fun _ v4 _ => 8 - (intOf v4).toNat)
  case atStart => exact ⟨0, rfl, Nat.zero_le _, rfl, Keeps.refl _ _⟩
  case round =>
    obtain ⟨i, rfl, hi, rfl, K⟩ := hrel
    by_cases hlt : i < 8
    · have hlt' : (i : Int) < 8 := by omega
      have hi0 : (0 : Int) ≤ (i : Int) := by omega
      have hC := HC.out i hlt wr K
      have HBr := hide (fun W (k : Keeps wr W (fun _ => False)) => HB.out W (K.trans k (fun _ _ e => e)))
      obtain ⟨s0, s1, s2, s3, s4, s5, s6, s7, s8, s9, s10⟩ := (HB.out wr K).small
      have hn : cntF c (i + 1) = cntF c i + if (c i).kind = 2 then 1 else 0 := rfl
      have HN := hide hn
      have HAt := hide (fun W (k : Keeps wr W (fun _ => False)) => (HBr.out W k).at hlt)
      have HK := hide K
      have Hi : Hid (i + 1 ≤ 8) := hlt
      have hw1 := hide (wr8 (i := i) (by omega))
      have hw2 := hide (wr8 (i := cntF c i) (by have := cntF_le c i; omega))
      clear K hi hn HBr
      obtain ⟨n1, hn1⟩ : ∃ n1, cntF c (i + 1) = n1 := ⟨_, rfl⟩
      rw [hn1] at HN
      have HN1 := hide hn1
      clear hn1
      obtain ⟨n0, hn0⟩ : ∃ n0, cntF c i = n0 := ⟨_, rfl⟩
      rw [hn0] at HN hw2 ⊢
      clear hn0
      generalize c i = x at *
      obtain ⟨xk, xt, xy, xe, xb⟩ := x
      unfold CellPost GC.val at hC
      dsimp only at *
      go_wp2_with fail
      (with_reducible refine hC.mono ?_)
      rintro r w3 ⟨rfl, k3⟩
      clear hC s0 s1 s2 s3 s4 s5 s6 s7 s8 s9 s10
      go_upto_region 6 with fail
      refine alloc1 (P := fun W => Code.wp _ _ _ _ W) fun W4 hb4 hz4 k4 => ?_
      have k34 : Keeps wr W4 (fun _ => False) := k3.trans k4 (fun _ _ e => e)
      obtain ⟨d0, d1, d2, d3, d4, -⟩ := five_cells hb4
      obtain ⟨e0, e1, e2, e3, e4⟩ := HAt.out W4 k34
      have K4 := hide (HK.out.trans k34 (fun _ _ e => e))
      have hy : (xy.toList == xy.toList) = true := by simp
      have hz : (xe.toList == xe.toList) = true := by simp
      clear hb4 hz4 k4 k3 k34 HAt
      generalize w3.heap.size = B4 at *
      have S0 : (fun w' : World => (w'.cell? ⟨B4, 0, none⟩ = some (.int .i64 xk) ∧ w'.cell? ⟨B4, 1, none⟩ = some (.int .i64 xt) ∧ w'.cell? ⟨B4, 2, none⟩ = some (.string xy) ∧ w'.cell? ⟨B4, 3, none⟩ = some (.string xe) ∧ w'.cell? ⟨B4, 4, none⟩ = some (.int .i64 xb)) ∧ w'.cell? ⟨b, 26 + i * 5, none⟩ = some (.int .i64 xk) ∧ w'.cell? ⟨b, 26 + i * 5 + 1, none⟩ = some (.int .i64 xt) ∧ w'.cell? ⟨b, 26 + i * 5 + 2, none⟩ = some (.string xy) ∧ w'.cell? ⟨b, 26 + i * 5 + 3, none⟩ = some (.string xe) ∧ w'.cell? ⟨b, 26 + i * 5 + 4, none⟩ = some (.int .i64 xb)) W4.drew := ⟨⟨d0, d1, d2, d3, d4⟩, e0, e1, e2, e3, e4⟩
      go_wp2_with fail
      go_region_held3 (fun w' : World => (w'.cell? ⟨B4, 0, none⟩ = some (.int .i64 xk) ∧ w'.cell? ⟨B4, 1, none⟩ = some (.int .i64 xt) ∧ w'.cell? ⟨B4, 2, none⟩ = some (.string xy) ∧ w'.cell? ⟨B4, 3, none⟩ = some (.string xe) ∧ w'.cell? ⟨B4, 4, none⟩ = some (.int .i64 xb)) ∧ w'.cell? ⟨b, 26 + i * 5, none⟩ = some (.int .i64 xk) ∧ w'.cell? ⟨b, 26 + i * 5 + 1, none⟩ = some (.int .i64 xt) ∧ w'.cell? ⟨b, 26 + i * 5 + 2, none⟩ = some (.string xy) ∧ w'.cell? ⟨b, 26 + i * 5 + 3, none⟩ = some (.string xe) ∧ w'.cell? ⟨b, 26 + i * 5 + 4, none⟩ = some (.int .i64 xb)) (first | with_reducible exact S0 | with_reducible assumption) (first | (go_at_call 12; (with_reducible refine (hNum _ _).mono ?_); rintro r w6 ⟨rfl, rfl⟩))
      all_goals (
        clear S0
        by_cases hx : xk = 2
        · subst hx
          have hn2 : n1 = n0 + 1 := by rw [HN.out, if_pos rfl]
          subst hn2
          have HKd := hide K4.out.drew
          obtain ⟨a6, a7⟩ := hw1.out
          obtain ⟨b6, b7⟩ := hw2.out
          go_wp2_with fail
          go_roundw
          case rel => exact ⟨i + 1, by go_num, Hi.out, by rw [HN1.out]; go_num, HKd.out⟩
          case measure => simp [intOf]; omega
        · have hn2 : n1 = n0 := by rw [HN.out, if_neg hx]; rfl
          subst hn2
          have hx' : (xk == 2) = false := beq_eq_false_iff_ne.2 hx
          have HKd := hide K4.out.drew
          obtain ⟨a6, a7⟩ := hw1.out
          clear hx
          go_wp2_with fail
          go_roundw
          case rel => exact ⟨i + 1, by go_num, Hi.out, by rw [HN1.out], HKd.out⟩
          case measure => simp [intOf]; omega)
    · obtain rfl : i = 8 := by omega
      have hS := HS.out wr K
      obtain ⟨s0, s1, s2, s3, s4, s5, s6, s7, s8, s9, s10⟩ := (HB.out wr K).small
      have HK := hide K
      clear K HC HS HB hi
      generalize ((cntF c 8 : Nat) : Int) = N at *
      go_wp2_with fail
      (with_reducible refine hS.mono ?_)
      rintro r w3 ⟨rfl, k3⟩
      have K3 := hide (HK.out.trans k3 (fun _ _ e => e))
      clear hS s0 s1 s2 s3 s4 s5 s6 s7 s8 s9 s10 k3
      go_upto_region 11 with fail
      refine alloc1 (P := fun W => Code.wp _ _ _ _ W) fun W4 hb4 hz4 k4 => ?_
      obtain ⟨⟨t0, t1, t2, t3⟩, -⟩ := st4_cells hb4
      have K4 := hide (K3.out.trans k4 (fun _ _ e => e))
      clear hb4 hz4 k4
      go_wp2_with fail
      (with_reducible refine (hNum _ _).mono ?_)
      rintro r w6 ⟨rfl, rfl⟩
      go_wp2_with fail
      go_ret
      exact ⟨rfl, K4.out⟩
end Go.Proofs.YtgckinldnnckoaaGreatDoor
/-
  small's law: what a turn changes, as data.
-/
namespace Go.Proofs.YtgckinldnnckoaaGreatDoor
open Go.RowKit Go.Shelf Ly Ct
set_option linter.unusedVariables false
theorem low_congr {M N : Nat → Bool} (h : ∀ i, i < 8 → M i = N i) : ∀ f, f ≤ 8 → low M f = low N f
  | 0, _ => rfl
  | f + 1, hf => by
    rw [low, low, h _ (by omega), low_congr h f (by omega)]
def fl1 (x : GC) : Nat := if x.kind = 2 then 1 else 0
theorem cntF_upd (c : Nat → GC) (i : Nat) (x : GC) : ∀ n, (n ≤ i → cntF (updC c i x) n = cntF c n) ∧ (i < n → cntF (updC c i x) n + fl1 (c i) = cntF c n + fl1 x)
  | 0 => ⟨fun _ => rfl, fun h => absurd h (Nat.not_lt_zero _)⟩
  | n + 1 => by
    obtain ⟨h1, h2⟩ := cntF_upd c i x n
    refine ⟨fun h => ?_, fun h => ?_⟩
    · have e : updC c i x n = c n := by unfold updC; rw [if_neg (by omega)]
      rw [cntF, cntF, e, h1 (by omega)]
    · by_cases e : n = i
      · subst e
        have e2 : updC c n x n = x := by unfold updC; rw [if_pos rfl]
        rw [cntF, cntF, e2, h1 (Nat.le_refl _)]
        unfold fl1
        omega
      · have e2 : updC c i x n = c n := by unfold updC; rw [if_neg e]
        have := h2 (by omega)
        rw [cntF, cntF, e2]
        omega
theorem setA {W : World} {B : Nat} {cs : Array Value} {t : TypeId} (h : W.heap[B]? = some (.cells cs t)) (k : Nat) (a : Value) : (W.setCell ⟨B, k, none⟩ a).heap[B]? = some (.cells (cs.setIfInBounds k a) t) := by
  simp [World.setCell, Array.getElem?_modify, h]
theorem getS {cs : Array Value} {k j : Nat} {a : Value} (h : k ≠ j) : (cs.setIfInBounds k a)[j]? = cs[j]? := Array.getElem?_setIfInBounds_ne h
theorem getT {cs : Array Value} {k : Nat} {a : Value} (h : k < cs.size) : (cs.setIfInBounds k a)[k]? = some a := by
  rw [Array.getElem?_setIfInBounds_self]
  simp [h]
section
variable {cs : Array Value} {b p : Nat} {l : Lay} {off q seed : Nat} {c : Nat → GC} {ad : Int} {W : World}
/-- One cell of the eight is another. -/
theorem BC.put (h : BC cs p l off q seed c ad) {i : Nat} (hi : i < 8) (x : GC) : BC (((((cs.setIfInBounds (26 + i * 5) (.int .i64 x.kind)).setIfInBounds (26 + i * 5 + 1) (.int .i64 x.tag)).setIfInBounds (26 + i * 5 + 2) (.string x.key)).setIfInBounds (26 + i * 5 + 3) (.string x.elem)).setIfInBounds (26 + i * 5 + 4) (.int .i64 x.birth)) p l off q seed (updC c i x) ad := by
  have ho : ∀ j, (j < 26 + i * 5 ∨ 26 + i * 5 + 4 < j) → (((((cs.setIfInBounds (26 + i * 5) (.int .i64 x.kind)).setIfInBounds (26 + i * 5 + 1) (.int .i64 x.tag)).setIfInBounds (26 + i * 5 + 2) (.string x.key)).setIfInBounds (26 + i * 5 + 3) (.string x.elem)).setIfInBounds (26 + i * 5 + 4) (.int .i64 x.birth))[j]? = cs[j]? := fun j hj => by
    rw [getS (by omega), getS (by omega), getS (by omega), getS (by omega), getS (by omega)]
  have hz := h.size
  refine ⟨by simp [hz], ?_, ?_, ?_, ?_, ?_, ?_, ?_, ?_, ?_, ?_, ?_, ?_, ?_, ?_, ?_, fun j hj => ?_, ?_⟩
  · rw [ho _ (by omega)]; exact h.lk
  · rw [ho _ (by omega)]; exact h.le
  · rw [ho _ (by omega)]; exact h.orc
  · rw [ho _ (by omega)]; exact h.s0
  · rw [ho _ (by omega)]; exact h.s1
  · rw [ho _ (by omega)]; exact h.s2
  · rw [ho _ (by omega)]; exact h.s3
  · rw [ho _ (by omega)]; exact h.s4
  · rw [ho _ (by omega)]; exact h.s5
  · rw [ho _ (by omega)]; exact h.s6
  · rw [ho _ (by omega)]; exact h.s7
  · rw [ho _ (by omega)]; exact h.s8
  · rw [ho _ (by omega)]; exact h.s9
  · rw [ho _ (by omega)]; exact h.s10
  · rw [ho _ (by omega)]; exact h.sd
  · by_cases e : j = i
    · subst e
      have e2 : updC c j x j = x := by unfold updC; rw [if_pos rfl]
      rw [e2]
      refine ⟨?_, ?_, ?_, ?_, ?_⟩
      · rw [getS (by omega), getS (by omega), getS (by omega), getS (by omega), getT (by omega)]
      · rw [getS (by omega), getS (by omega), getS (by omega), getT (by simp; omega)]
      · rw [getS (by omega), getS (by omega), getT (by simp; omega)]
      · rw [getS (by omega), getT (by simp; omega)]
      · rw [getT (by simp; omega)]
    · have e2 : updC c i x j = c j := by unfold updC; rw [if_neg e]
      obtain ⟨a0, a1, a2, a3, a4⟩ := h.cell j hj
      rw [e2, ho _ (by omega), ho _ (by omega), ho _ (by omega), ho _ (by omega), ho _ (by omega)]
      exact ⟨a0, a1, a2, a3, a4⟩
  · rw [ho _ (by omega)]; exact h.ad
theorem BC.same (h : BC cs p l off q seed c ad) {c2 : Nat → GC} (e : ∀ i, i < 8 → c2 i = c i) : BC cs p l off q seed c2 ad := ⟨h.size, h.lk, h.le, h.orc, h.s0, h.s1, h.s2, h.s3, h.s4, h.s5, h.s6, h.s7, h.s8, h.s9, h.s10, h.sd, fun i hi => by rw [e i hi]; exact h.cell i hi, h.ad⟩
/-- One elem of the eight is another. -/
theorem BC.elem (h : BC cs p l off q seed c ad) {i : Nat} (hi : i < 8) (y : ByteArray) : BC (cs.setIfInBounds (26 + i * 5 + 3) (.string y)) p l off q seed (updC c i { c i with elem := y }) ad := by
  have ho : ∀ j, j ≠ 26 + i * 5 + 3 → (cs.setIfInBounds (26 + i * 5 + 3) (.string y))[j]? = cs[j]? := fun j hj => getS (fun e => hj e.symm)
  have hz := h.size
  refine ⟨by simp [hz], ?_, ?_, ?_, ?_, ?_, ?_, ?_, ?_, ?_, ?_, ?_, ?_, ?_, ?_, ?_, fun j hj => ?_, ?_⟩
  · rw [ho _ (by omega)]; exact h.lk
  · rw [ho _ (by omega)]; exact h.le
  · rw [ho _ (by omega)]; exact h.orc
  · rw [ho _ (by omega)]; exact h.s0
  · rw [ho _ (by omega)]; exact h.s1
  · rw [ho _ (by omega)]; exact h.s2
  · rw [ho _ (by omega)]; exact h.s3
  · rw [ho _ (by omega)]; exact h.s4
  · rw [ho _ (by omega)]; exact h.s5
  · rw [ho _ (by omega)]; exact h.s6
  · rw [ho _ (by omega)]; exact h.s7
  · rw [ho _ (by omega)]; exact h.s8
  · rw [ho _ (by omega)]; exact h.s9
  · rw [ho _ (by omega)]; exact h.s10
  · rw [ho _ (by omega)]; exact h.sd
  · obtain ⟨a0, a1, a2, a3, a4⟩ := h.cell j hj
    by_cases e : j = i
    · subst e
      have e2 : updC c j { c j with elem := y } j = { c j with elem := y } := by unfold updC; rw [if_pos rfl]
      rw [e2]
      refine ⟨?_, ?_, ?_, ?_, ?_⟩
      · rw [ho _ (by omega)]; exact a0
      · rw [ho _ (by omega)]; exact a1
      · rw [ho _ (by omega)]; exact a2
      · rw [getT (by omega)]
      · rw [ho _ (by omega)]; exact a4
    · have e2 : updC c i { c i with elem := y } j = c j := by unfold updC; rw [if_neg e]
      rw [e2, ho _ (by omega), ho _ (by omega), ho _ (by omega), ho _ (by omega), ho _ (by omega)]
      exact ⟨a0, a1, a2, a3, a4⟩
  · rw [ho _ (by omega)]; exact h.ad
theorem BC.added (h : BC cs p l off q seed c ad) (n : Int) : BC (cs.setIfInBounds 66 (.int .i64 n)) p l off q seed c n := by
  have ho : ∀ j, j ≠ 66 → (cs.setIfInBounds 66 (.int .i64 n))[j]? = cs[j]? := fun j hj => getS (fun e => hj e.symm)
  have hz := h.size
  refine ⟨by simp [hz], ?_, ?_, ?_, ?_, ?_, ?_, ?_, ?_, ?_, ?_, ?_, ?_, ?_, ?_, ?_, fun j hj => ?_, getT (by omega)⟩
  · rw [ho _ (by omega)]; exact h.lk
  · rw [ho _ (by omega)]; exact h.le
  · rw [ho _ (by omega)]; exact h.orc
  · rw [ho _ (by omega)]; exact h.s0
  · rw [ho _ (by omega)]; exact h.s1
  · rw [ho _ (by omega)]; exact h.s2
  · rw [ho _ (by omega)]; exact h.s3
  · rw [ho _ (by omega)]; exact h.s4
  · rw [ho _ (by omega)]; exact h.s5
  · rw [ho _ (by omega)]; exact h.s6
  · rw [ho _ (by omega)]; exact h.s7
  · rw [ho _ (by omega)]; exact h.s8
  · rw [ho _ (by omega)]; exact h.s9
  · rw [ho _ (by omega)]; exact h.s10
  · rw [ho _ (by omega)]; exact h.sd
  · obtain ⟨a0, a1, a2, a3, a4⟩ := h.cell j hj
    rw [ho _ (by omega), ho _ (by omega), ho _ (by omega), ho _ (by omega), ho _ (by omega)]
    exact ⟨a0, a1, a2, a3, a4⟩
theorem BN.elem (h : BN b p l off q seed c ad W) {i : Nat} (hi : i < 8) (y : ByteArray) : BN b p l off q seed (updC c i { c i with elem := y }) ad (W.setCell ⟨b, 26 + i * 5 + 3, none⟩ (.string y)) := by
  obtain ⟨cs, h1, h2⟩ := h
  exact ⟨_, setA h1 _ _, h2.elem hi y⟩
theorem BN.put (h : BN b p l off q seed c ad W) {i : Nat} (hi : i < 8) (x : GC) : BN b p l off q seed (updC c i x) ad (((((W.setCell ⟨b, 26 + i * 5, none⟩ (.int .i64 x.kind)).setCell ⟨b, 26 + i * 5 + 1, none⟩ (.int .i64 x.tag)).setCell ⟨b, 26 + i * 5 + 2, none⟩ (.string x.key)).setCell ⟨b, 26 + i * 5 + 3, none⟩ (.string x.elem)).setCell ⟨b, 26 + i * 5 + 4, none⟩ (.int .i64 x.birth)) := by
  obtain ⟨cs, h1, h2⟩ := h
  exact ⟨_, setA (setA (setA (setA (setA h1 _ _) _ _) _ _) _ _) _ _, h2.put hi x⟩
theorem BN.added (h : BN b p l off q seed c ad W) (n : Int) : BN b p l off q seed c n (W.setCell ⟨b, 66, none⟩ (.int .i64 n)) := by
  obtain ⟨cs, h1, h2⟩ := h
  exact ⟨_, setA h1 _ _, h2.added n⟩
theorem BN.frozen (h : BN b p l off q seed c ad W) (j : Nat) : W.frozen? ⟨b, j, none⟩ = false := by
  obtain ⟨cs, h1, -⟩ := h
  simp [World.frozen?, h1]
end
section
variable {w0 : World} {b p : Nat} {l : Lay} {off q m nm seed : Nat} {X : Nat → Prop} {g : List UInt8 → Option Nat} {d d' : AD} {f f' : Nat → Int} {c c' cb cb' : Nat → GC} {ad ad' : Int} {W W' : World}
/-- The arena has turned: the small one's cells are others, the Bench stands. -/
theorem SB.turn (h : SB w0 b p l off q m nm seed X g d f c cb ad W) (ht : Turned W W' p (fun k => (w0.heap.size ≤ k ∧ ¬ X k) ∧ k < W.heap.size) d') (hto : Touch d d' off (32 + l.g.toNat)) (hs : SmD d' l off f' c') (h0 : f' 0 = 1) (h1 : f' 1 = 0) (h2 : f' 2 = 0) (h3 : f' 3 = ((cntF c' 8 : Nat) : Int)) (htg : ∀ i, i < 8 → (c' i).kind = 2 → (c' i).tag = ((tagF g seed (c' i).key : Nat) : Int)) (hk : ∀ i, i < 8 → c' i = GC.zero ∨ (c' i).kind = 2) : SB w0 b p l off q m nm seed X g d' f' c' cb ad W' := by
  have hx : ∀ k, X k → ¬ ((w0.heap.size ≤ k ∧ ¬ X k) ∧ k < W.heap.size) := fun k hk e => e.1.2 hk
  exact ⟨h.own.turn ht h.xl, hto.fine h.fine, hto.small h.sml, hs, h.bn.keeps ht.2 (hx b h.xb), orc_keeps h.orc ht.2 (hx q h.xq) (hx m h.xm), h.xb, h.xq, h.xm, fun i hi => Nat.lt_of_lt_of_le (h.xl i hi) ht.2.size, h0, h1, h2, h3, htg, hk⟩
/-- The Bench's block has turned, nothing else. -/
theorem SB.bench (h : SB w0 b p l off q m nm seed X g d f c cb ad W) (k : Keeps W W' (fun i => i = b)) (hb : BN b p l off q seed cb' ad' W') (hqb : q ≠ b) (hmb : m ≠ b) (hw : w0.heap.size ≤ b) : SB w0 b p l off q m nm seed X g d f c cb' ad' W' :=
  ⟨⟨h.own.arena.keeps k (fun i _ hi e => hi.2 (by rw [e]; exact h.xb)), h.own.keeps.trans k (fun i hi e => by omega)⟩, h.fine, h.sml, h.sm, hb, orc_keeps h.orc k hqb hmb, h.xb, h.xq, h.xm, fun i hi => Nat.lt_of_lt_of_le (h.xl i hi) k.size, h.f0, h.f1, h.f2, h.f3, h.tags, h.kinds⟩
theorem SB.findEq (h : SB w0 b p l off q m nm seed X g d f c cb ad W) (key : ByteArray) : low (mtC c ((tagF g seed key : Nat) : Int) key) 8 = low (mkC c key) 8 := low_congr (fun i hi => by
  unfold mtC mkC
  refine decide_eq_decide.2 ⟨fun e => ⟨e.1, e.2.2⟩, fun e => ⟨e.1, ?_, e.2⟩⟩
  rw [h.tags i hi e.1, e.2]) 8 (Nat.le_refl _)
theorem SB.emp (h : SB w0 b p l off q m nm seed X g d f c cb ad W) : empL c = low (vcC c) 8 := low_congr (fun i hi => by
  unfold vcC
  refine decide_eq_decide.2 ⟨fun e => by rw [e]; decide, fun e => ?_⟩
  rcases h.kinds i hi with q | q
  · rw [q]; rfl
  · exact absurd q e) 8 (Nat.le_refl _)
end
end Go.Proofs.YtgckinldnnckoaaGreatDoor
