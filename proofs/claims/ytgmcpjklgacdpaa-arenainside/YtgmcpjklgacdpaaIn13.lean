import Derived.Lib.Join
import Derived.Deep.RegionHeld
import Derived.Shelf.Strings.Builder1
import Derived.Shelf.Strings.Builder2
import Derived.Shelf.Strings.OnBuilder
import Derived.Shelf.Small.Bits
import Derived.Shelf.Strings.BuilderF
import Derived.Shelf.Strings.Builder2Cap
import Derived.Shelf.Strconv.Itoa0
import Derived.Shelf.Sort.Plain
import Derived.Ground.Names2Prog
import Derived.Shelf.Slices.SearchI
import Derived.Shelf.Slices.In.SortNone
import Derived.Shelf.Slices.Empties
import Derived.Shelf.Bytes.Small
import Derived.Test.YtgmcpjklgacdpaaProg
import Derived.Test.YtgmcpjklgacdpaaIn12
namespace Go.Proofs.Ytgmcpjklgacdpaa
open Go.RowKit Go.Shelf

/-- A list of texts behind an address. -/
def TextsAt (w : World) (a : Option Addr) (ts : List ByteArray) : Prop := ∀ j (h : j < ts.length), ∃ b o, a = some ⟨b, o, none⟩ ∧ b < w.heap.size ∧ w.cell? ⟨b, o + j, none⟩ = some (.string ts[j])
theorem TextsAt.two {w : World} {a : Option Addr} {ts : List ByteArray} (h : TextsAt w a ts) : ts = [] ∨ ∃ b o, a = some ⟨b, o, none⟩ ∧ b < w.heap.size ∧ 0 < ts.length ∧ ∀ j (h : j < ts.length), w.cell? ⟨b, o + j, none⟩ = some (.string ts[j]) := by
  cases ts with
  | nil => exact Or.inl rfl
  | cons z r =>
    obtain ⟨b, o, e, hb, _⟩ := h 0 (by simp)
    refine Or.inr ⟨b, o, e, hb, by simp, fun j hj => ?_⟩
    obtain ⟨b', o', e', _, hc⟩ := h j hj
    rw [e] at e'
    cases e'
    exact hc
theorem TextsAt.keeps {w w' : World} {a : Option Addr} {ts : List ByteArray} (h : TextsAt w a ts) (k : Keeps w w' (fun _ => False)) : TextsAt w' a ts := by
  intro j hj
  obtain ⟨b, o, e, hb, hc⟩ := h j hj
  exact ⟨b, o, e, Nat.lt_of_lt_of_le hb k.size, (World.cell?_of_block (w := w) (a := ⟨b, o + j, none⟩) (k.block b hb id)).trans hc⟩
def lens : List ByteArray → Nat
  | [] => 0
  | t :: r => t.size + lens r
theorem lens_append (a b : List ByteArray) : lens (a ++ b) = lens a + lens b := by
  induction a with
  | nil => simp [lens]
  | cons t r ih => simp [lens, ih]; omega
theorem lens_take_succ {ts : List ByteArray} {k : Nat} (hk : k < ts.length) : lens (ts.take (k + 1)) = lens (ts.take k) + ts[k].size := by
  rw [List.take_succ_eq_append_getElem hk, lens_append]
  simp [lens]
theorem lens_take_le (ts : List ByteArray) (k : Nat) : lens (ts.take k) ≤ lens ts := by
  have := lens_append (ts.take k) (ts.drop k)
  rw [List.take_append_drop] at this
  omega
/-- All of them, one behind the other. -/
def joined (ts : List ByteArray) : List UInt8 := Lib.join (ts.map (·.data.toList)) []
theorem joined_eq : ∀ ts : List ByteArray, joined ts = (ts.map (·.data.toList)).flatten
  | [] => rfl
  | [t] => by simp [joined, Lib.join, List.intercalate]
  | t :: s :: r => by
    have := joined_eq (s :: r)
    simp only [joined, Lib.join, List.map_cons] at this ⊢
    rw [List.intercalate_cons_cons, this]
    simp
theorem joined_length (ts : List ByteArray) : (joined ts).length = lens ts := by
  rw [joined_eq]
  induction ts with
  | nil => rfl
  | cons t r ih =>
    simp only [List.map_cons, List.flatten_cons, List.length_append, ih, lens]
    simp

def LenPost (w : World) (ts : List ByteArray) (e : Ending) (w' : World) : Prop := ∃ n : Nat, e = .returned (.int .i64 (n : Int)) ∧ w' = w ∧ (n = lens ts ∨ (1048576 < n ∧ 1048576 < lens ts)) ∧ n ≤ 1125899906842624
set_option maxHeartbeats 1000000 in
theorem length_nil (a : Option Addr) (cap : Nat) (w : World) : Calls Try.prog 48 #[.slice a 0 cap] w fun e w' => LenPost w [] e w' := by
  go_enter Try.func48, Try.ntmps48
  go_wp2_with fail
  go_loop [3, 8] (fun n i => n = .int .i64 0 ∧ i = .int .i64 0) (fun _ _ => 0)
  case atStart => exact ⟨rfl, rfl⟩
  case round =>
    obtain ⟨rfl, rfl⟩ := hrel
    go_wp2_with fail
    go_ret
    exact ⟨0, rfl, rfl, Or.inl rfl, by omega⟩

set_option maxHeartbeats 1000000 in
theorem length_some (b o cap : Nat) (ts : List ByteArray) (w : World) (hbig : ts.length ≤ 140737488355328) (hsz : ∀ t ∈ ts, t.size ≤ 140737488355328) (hc : ∀ j (h : j < ts.length), w.cell? ⟨b, o + j, none⟩ = some (.string ts[j])) :
    Calls Try.prog 48 #[.slice (some ⟨b, o, none⟩) ts.length cap] w fun e w' => LenPost w ts e w' := by
  go_enter Try.func48, Try.ntmps48
  go_wp2_with fail
  go_loop [3, 8] (fun n i => ∃ k : Nat, i = .int .i64 (k : Int) ∧ n = .int .i64 ((lens (ts.take k) : Nat) : Int) ∧ k ≤ ts.length ∧ lens (ts.take k) ≤ 1048576) (fun _ i => ts.length - (intOf i).toNat)
  case atStart => exact ⟨0, rfl, rfl, Nat.zero_le _, by simp [lens]⟩
  case round =>
    obtain ⟨k, rfl, rfl, hk, hl⟩ := hrel
    by_cases hlt : k < ts.length
    · have hlt' : (k : Int) < (ts.length : Int) := by omega
      have hck := hc k hlt
      have hst := lens_take_succ hlt
      have hs := hsz _ (List.getElem_mem hlt)
      have hle := lens_take_le ts (k + 1)
      generalize ts[k]'hlt = t at *
      generalize lens (ts.take k) = N at *
      have HST := hide hst
      have HLE := hide hle
      clear hc hsz hst hle
      by_cases hbig1 : 1048576 < N + t.size
      · have hb' : (1048576 : Int) < (N : Int) + (t.size : Int) := by omega
        go_wp2_with fail
        go_ret
        exact ⟨N + t.size, by simp, rfl, Or.inr ⟨hbig1, by have := HST.out; have := HLE.out; omega⟩, by omega⟩
      · have hb' : ¬ (1048576 : Int) < (N : Int) + (t.size : Int) := by omega
        go_wp2_with fail
        go_round
        case rel => exact ⟨k + 1, by go_num, by rw [HST.out]; simp, by omega, by rw [HST.out]; omega⟩
        case measure => simp [intOf]; omega
    · have hlt' : ¬ (k : Int) < (ts.length : Int) := by omega
      have hall : ts.take k = ts := List.take_of_length_le (by omega)
      rw [hall] at hl ⊢
      generalize hN : lens ts = N at *
      clear hc
      go_wp2_with fail
      go_ret
      exact ⟨N, rfl, rfl, Or.inl hN.symm, by omega⟩

theorem length_any {w : World} (a : Option Addr) (cap : Nat) (ts : List ByteArray) (hbig : ts.length ≤ 140737488355328) (hsz : ∀ t ∈ ts, t.size ≤ 140737488355328) (h : TextsAt w a ts) :
    Calls Try.prog 48 #[.slice a ts.length cap] w fun e w' => LenPost w ts e w' := by
  rcases h.two with rfl | ⟨b, o, rfl, _, _, hc⟩
  · exact length_nil a cap w
  · exact length_some b o cap ts w hbig hsz hc

/-- What the library's Join does. -/
def JoinOK : Prop := ∀ (a : Option Addr) (c : Nat) (ts : List ByteArray) (w : World), TextsAt w a ts → ts.length ≤ c → ts.length ≤ 140737488355328 → lens ts ≤ 1048576 →
  Calls Try.prog 50 #[.slice a ts.length c, .string ByteArray.empty] w fun e w' => e = .returned (.string (strOf (joined ts))) ∧ Keeps w w' (fun _ => False)

def writeR (d : AD) (off : Int) (ts : List ByteArray) : Int × AD := if d.goodB off (lens ts : Nat) && decide (lens ts ≤ 1048576) then (0, d.bytes (splice d.bs off.toNat (joined ts))) else (24, d)
/-- No block is greater than 1048576. -/
def AD.small (d : AD) : Prop := ∀ x ∈ d.L, x.2 ≤ 1048576
theorem AD.small_good {d : AD} (h : d.small) {off n : Int} (hn : 1048576 < n) : d.goodB off n = false := by
  cases hg : d.goodB off n
  · rfl
  · obtain ⟨x, hx, _, h0, h1, h2⟩ := AD.goodB_true hg
    have := h x hx
    omega

set_option maxHeartbeats 2000000 in
set_option maxRecDepth 100000 in
theorem awrite_any (hJ : JoinOK) {w : World} {p : Nat} {F : Nat → Prop} {d : AD} (hA : Arena w p F d) (hF : d.Fine) (hS : d.small) (off : Int) (a : Option Addr) (cap : Nat) (ts : List ByteArray) (ho : fitsI off) (hbig : ts.length ≤ 140737488355328) (hcap : ts.length ≤ cap) (hsz : ∀ t ∈ ts, t.size ≤ 140737488355328) (ht : TextsAt w a ts) :
    Calls Try.prog 24 #[.pointer (some ⟨p, 0, none⟩), .int .i64 off, .slice a ts.length cap] w fun e w' => ErrPost w p F (writeR d off ts).1 (writeR d off ts).2 e w' := by
  obtain ⟨c, h, hfo⟩ := hA.at
  have hl := length_any a cap ts hbig hsz ht
  have hg := fun (n : Nat) (hn : n ≤ 1125899906842624) => good_any h hF off (n : Int) ho (fitsI_mk (by omega) (by omega))
  unfold writeR
  cases hw : d.goodB off (lens ts : Nat) && decide (lens ts ≤ 1048576)
  · simp only [Bool.false_eq_true, if_false]
    have hno : ∀ n : Nat, (n = lens ts ∨ (1048576 < n ∧ 1048576 < lens ts)) → d.goodB off (n : Int) = false := by
      intro n hn
      rcases hn with rfl | ⟨hn, _⟩
      · by_cases h1 : lens ts ≤ 1048576
        · rw [decide_eq_true h1, Bool.and_true] at hw
          exact hw
        · exact AD.small_good hS (by omega)
      · exact AD.small_good hS (by omega)
    clear hw h hF hS
    go_enter Try.func24, Try.ntmps24
    go_wp2_with fail
    refine hl.mono ?_
    rintro e w1 ⟨n, rfl, rfl, hn, hnb⟩
    replace hg := hg n hnb
    rw [hno n hn] at hg
    clear hl hno hn
    go_wp2_with fail
    refine hg.mono ?_
    rintro e w2 ⟨rfl, k2⟩
    have T1 := hide (hA.same k2)
    clear hg k2 hA
    go_wp2_with fail
    go_ret
    exact ⟨rfl, T1.out⟩
  · simp only [if_true]
    rw [Bool.and_eq_true, decide_eq_true_eq] at hw
    obtain ⟨hw1, hw2⟩ := hw
    obtain ⟨o, k, rfl, hk, _, hok⟩ := hF.span hw1
    have hlk : lens ts = k := by omega
    subst hlk
    rw [Int.toNat_natCast]
    have hjl := joined_length ts
    go_enter Try.func24, Try.ntmps24
    go_wp2_with fail
    refine hl.mono ?_
    rintro e w1 ⟨n, rfl, rfl, hn, hnb⟩
    obtain rfl : n = lens ts := by
      rcases hn with e | ⟨_, e⟩
      · exact e
      · omega
    replace hg := hg (lens ts) hnb
    rw [hw1] at hg
    clear hl hn
    go_wp2_with fail
    refine hg.mono ?_
    rintro e w2 ⟨rfl, k2⟩
    have hjn := fun W (kW : Keeps w1 W (fun _ => False)) => hJ a cap ts W (ht.keeps kW) hcap hbig hw2
    have hcell := fun W (kW : Keeps w1 W (fun _ => False)) => (h.keeps kW (fun _ _ e => e)).cell2
    have hcell2 : ∀ W, Keeps w1 W (fun i => i = c.g) → W.cell? ⟨p, 2, none⟩ = some (.pointer (some ⟨c.b, 0, none⟩)) := fun W kW => (World.cell?_of_block (w := w1) (a := ⟨p, 2, none⟩) (kW.block p (heap_lt h.hp) h.p_g)).trans h.cell2
    have hwr : ∀ W V (hh n c' : Nat) (y : List UInt8) (fz : Nat × Nat), Keeps w1 W (fun _ => False) → w1.heap.size ≤ hh → W.heap[hh]? = some (.cells (rowOf (joined ts ++ y)) 5 fz) → n = (joined ts).length → V = W.heap.size →
        Calls Try.prog 49 #[.pointer (some ⟨c.b, 0, none⟩), .int .i64 (o : Int), .slice (some ⟨V, 0, none⟩) 1 1] (W.alloc (.cells #[.slice (some ⟨hh, 0, none⟩) n c'] 94)) fun e w' => WritePost (W.alloc (.cells #[.slice (some ⟨hh, 0, none⟩) n c'] 94)) c.b c.g (splice d.bs o (joined ts)) c.sp e w' :=
      fun W V hh n c' y fz kW hhh hr hn hV => write_one_yes (h.mem.keeps kW id id) hr (by have := heap_lt h.mem.hg; omega) hn (by omega) hV (by omega)
    have hend : ∀ W w5 e, Keeps w1 W (fun _ => False) → WritePost W c.b c.g (splice d.bs o (joined ts)) c.sp e w5 → Turned w1 w5 p F (d.bytes (splice d.bs o (joined ts))) := fun W w5 e kW hp => turned_wrote h hfo kW hp
    obtain ⟨S, hSe⟩ : ∃ S, strOf (joined ts) = S := ⟨_, rfl⟩
    have hjz : S.size = (joined ts).length := by rw [← hSe]; simp [strOf, ByteArray.size]
    have hjd : S.data.toList = joined ts := by rw [← hSe]; simp [strOf]
    rw [hSe] at hjn
    have HJZ := hide hjz
    have HJD := hide hjd
    clear hSe hjz hjd hS
    have k2d : Keeps w1 w2.drew (fun _ => False) := k2.drew
    clear hg h hA hJ hF ht hfo
    go_wp2_with fail
    go_region_held (fun w' => w'.cell? ⟨p, 2, none⟩ = some (.pointer (some ⟨c.b, 0, none⟩))) (first | exact hcell _ k2d | exact hcell _ k3 | exact hcell _ k4 | exact hcell _ k5 | exact hcell2 _ k6)
      (first
        | (go_at_call 50; refine (hjn _ k2d).mono ?_; rintro e w3 ⟨rfl, k3'⟩; have k3 := k2d.trans k3' (fun _ _ e => e); obtain ⟨w4, c4, fz, hconv, k4', hs4, hr4⟩ := bytes_of (P := Try.prog) w3 9 94 5 S Try.underlying9 Try.underlying94 Try.underlying5; have k4 := k3.trans k4' (fun _ _ e => e); have k5 : Keeps w1 (w4.alloc (.cells #[.slice (some ⟨w3.heap.size, 0, none⟩) S.size c4] 94)) (fun _ => False) := k4.alloc _)
        | (go_at_call 49; refine (hwr w4 _ w3.heap.size _ c4 _ fz k4 k3.size (by rw [HJD.out] at hr4; exact hr4) HJZ.out hs4.symm).mono ?_; intro e w5 hp5; have T1 := hide (hend _ _ _ k5 hp5); have k6 : Keeps w1 w5 (fun i => i = c.g) := (k5.mono (fun _ _ e => e.elim)).trans hp5.2.2 (fun _ _ e => e); obtain ⟨rfl, _, _⟩ := hp5))
    all_goals go_wp2_with fail
    all_goals go_ret
    all_goals exact ⟨rfl, T1.out⟩
end Go.Proofs.Ytgmcpjklgacdpaa
namespace Go.Proofs
open Go.Shelf
def Try.lays156_ren : Go.Shelf.Ren := ⟨fun | 156 => 50 | 165 => 73 | 166 => 74 | 169 => 75 | 240 => 87 | 241 => 88 | 276 => 103 | 277 => 104 | n => n, fun | 31 => 97 | 9 => 9 | 3 => 3 | 4 => 4 | 0 => 0 | 20 => 20 | 72 => 122 | 76 => 126 | 70 => 120 | 37 => 94 | 75 => 125 | 127 => 140 | 164 => 154 | 5 => 5 | 80 => 128 | n => n, fun | n => n⟩
theorem Try.lays156 : Go.Proofs.Lays.n156 Try.prog Try.lays156_ren := {
  mixed := by kernel_rfl
  f156 := Try.func50.trans (congrArg some (by kernel_rfl))
  f165 := Try.func73.trans (congrArg some (by kernel_rfl))
  f166 := Try.func74.trans (congrArg some (by kernel_rfl))
  f169 := Try.func75.trans (congrArg some (by kernel_rfl))
  f240 := Try.func87.trans (congrArg some (by kernel_rfl))
  f241 := Try.func88.trans (congrArg some (by kernel_rfl))
  f276 := Try.func103.trans (congrArg some (by kernel_rfl))
  f277 := Try.func104.trans (congrArg some (by kernel_rfl))
  t0 := Try.underlying0
  a0 := Try.isAgg0
  z0 := Try.sizeOf0
  v0 := Try.zeroValue0
  t3 := Try.underlying3
  a3 := Try.isAgg3
  z3 := Try.sizeOf3
  v3 := Try.zeroValue3
  t4 := Try.underlying4
  a4 := Try.isAgg4
  z4 := Try.sizeOf4
  v4 := Try.zeroValue4
  t9 := Try.underlying9
  a9 := Try.isAgg9
  z9 := Try.sizeOf9
  v9 := Try.zeroValue9
  t20 := Try.underlying20
  a20 := Try.isAgg20
  z20 := Try.sizeOf20
  v20 := Try.zeroValue20
  t31 := Try.underlying97
  a31 := Try.isAgg97
  z31 := Try.sizeOf97
  v31 := Try.zeroValue97
  t37 := Try.underlying94
  a37 := Try.isAgg94
  z37 := Try.sizeOf94
  v37 := Try.zeroValue94
  t70 := Try.underlying120
  a70 := Try.isAgg120
  z70 := Try.sizeOf120
  v70 := Try.zeroValue120
  t72 := Try.underlying122
  a72 := Try.isAgg122
  z72 := Try.sizeOf122
  v72 := Try.zeroValue122
  t75 := Try.underlying125
  a75 := Try.isAgg125
  z75 := Try.sizeOf125
  v75 := Try.zeroValue125
  t76 := Try.underlying126
  a76 := Try.isAgg126
  z76 := Try.sizeOf126
  v76 := Try.zeroValue126
  t127 := Try.underlying140
  a127 := Try.isAgg140
  z127 := Try.sizeOf140
  v127 := Try.zeroValue140
  t164 := Try.underlying154
  a164 := Try.isAgg154
  z164 := Try.sizeOf154
  v164 := Try.zeroValue154 }
theorem Try.Builder_Extra_156 : Builder.Extra Try.prog Try.lays156_ren := {
  sizeBuilder := by kernel_rfl
  liesBuilder := by kernel_rfl
  t5 := Try.underlying5
  a5 := Try.isAgg5
  z5 := Try.sizeOf5
  v5 := Try.zeroValue5
  infoByte := by kernel_rfl
  cellsByte := by kernel_rfl
  sizeByte := by kernel_rfl
  neB5 := by decide }
open Go.RowKit in
theorem Try.strings_Join_none (a : Option Addr) (c : Nat) (sep : ByteArray) (w : World) :
    Calls Try.prog 50 #[.slice a 0 c, .string sep] w fun e w' => e = .returned (.string ⟨#[]⟩) ∧ w' = w := Any.strings_Join_none Try.lays156 Try.Builder_Extra_156 a c sep w
open Go.RowKit in
theorem Try.strings_Join (bk o c : Nat) (xs : List ByteArray) (sep : ByteArray) (w : World) (hcells : ∀ (j : Nat) x, xs[j]? = some x → w.cell? ⟨bk, o + j, none⟩ = some (.string x)) (hbk : bk < w.heap.size) (hN : xs.length ≤ 140737488355328) (hcap : xs.length ≤ c) (hlen : (Lib.join (xs.map (·.data.toList)) sep.data.toList).length ≤ 140737488355328) :
    Calls Try.prog 50 #[.slice (some ⟨bk, o, none⟩) xs.length c, .string sep] w fun e w' => e = .returned (.string ⟨(Lib.join (xs.map (·.data.toList)) sep.data.toList).toArray⟩) ∧ Below w.heap.size w w' := Any.strings_Join Try.lays156 Try.Builder_Extra_156 bk o c xs sep w hcells hbk hN hcap hlen
end Go.Proofs
namespace Go.Proofs.Ytgmcpjklgacdpaa
open Go.RowKit Go.Shelf

theorem Keeps.ofBelow {w w' : World} (h : Below w.heap.size w w') : Keeps w w' (fun _ => False) := ⟨h.os, h.tape, h.output, h.size, fun k hk _ => h.block k hk⟩
theorem joinOK : JoinOK := by
  intro a c ts w h hc hn hl
  have e0 : ByteArray.empty.data.toList = [] := rfl
  rcases h.two with rfl | ⟨b, o, rfl, hb, _, hcell⟩
  · refine (Try.strings_Join_none a c ByteArray.empty w).mono ?_
    rintro e w' ⟨rfl, rfl⟩
    exact ⟨rfl, Keeps.refl _ _⟩
  · refine (Try.strings_Join b o c ts ByteArray.empty w (fun j x hj => ?_) hb hn hc ?_).mono ?_
    · obtain ⟨hj', e⟩ := List.getElem?_eq_some_iff.1 hj
      rw [hcell j hj', e]
    · rw [e0]
      have := joined_length ts
      unfold joined at this
      omega
    · rintro e w' ⟨rfl, hbel⟩
      exact ⟨rfl, Keeps.ofBelow hbel⟩
end Go.Proofs.Ytgmcpjklgacdpaa
namespace Go.Proofs.Ytgmcpjklgacdpaa
open Go.RowKit Go.Shelf

/-- The byte u n times, as the statements make it. -/
def RepPost (w : World) (n : Nat) (u : UInt8) (e : Ending) (w' : World) : Prop := e = .returned (.string (strOf (same n u))) ∧ Keeps w w' (fun _ => False)
theorem same_mix (n k : Nat) (u : UInt8) (h : k < n) : (rowOf (same k u ++ zeros (n - k))).setIfInBounds k (.int .u8 (u.toNat : Int)) = rowOf (same (k + 1) u ++ zeros (n - (k + 1))) := by
  apply Array.ext'
  obtain ⟨m, hm⟩ : ∃ m, n - k = m + 1 := ⟨n - k - 1, by omega⟩
  have hm' : n - (k + 1) = m := by omega
  rw [Array.toList_setIfInBounds, rowOf_toList, rowOf_toList, hm, hm']
  have e1 : cellsOf (same k u ++ zeros (m + 1)) = cellsOf (same k u) ++ (.int .u8 0 :: cellsOf (zeros m)) := by
    rw [cellsOf_append]
    rfl
  have e2 : cellsOf (same (k + 1) u ++ zeros m) = cellsOf (same k u) ++ (.int .u8 (u.toNat : Int) :: cellsOf (zeros m)) := by
    rw [← same_succ, List.append_assoc, cellsOf_append]
    rfl
  have hl : (cellsOf (same k u)).length = k := by rw [cellsOf_length, same_length]
  rw [e1, e2, List.set_append_right _ _ (by omega), hl, Nat.sub_self]
  rfl

set_option maxHeartbeats 1000000 in
theorem repeat_any (u : UInt8) (n : Nat) (w : World) (hn : n ≤ 134217728) : Calls Try.prog 25 #[.int .u8 (u.toNat : Int), .int .i64 (n : Int)] w fun e w' => RepPost w n u e w' := by
  have hmk := run_make_bytes (P := Try.prog) w 94 5 Try.underlying94 Try.infoE n hn
  have hu := u.toNat_lt
  obtain ⟨S, hS⟩ : ∃ S, strOf (same n u) = S := ⟨_, rfl⟩
  unfold RepPost
  rw [hS]
  go_enter Try.func25, Try.ntmps25
  go_wp2_with fail
  go_loopw [6] (fun i wr => ∃ k : Nat, i = .int .i64 (k : Int) ∧ k ≤ n ∧ wr.heap[w.heap.size]? = some (.cells (rowOf (same k u ++ zeros (n - k))) 5) ∧ Keeps w wr (fun _ => False)) (fun i _ => n - (intOf i).toNat)
  case atStart => exact ⟨0, rfl, Nat.zero_le _, heap_alloc_new _ _, (Keeps.refl _ _).alloc _⟩
  case round =>
    obtain ⟨k, rfl, hk, hr, K⟩ := hrel
    clear hmk
    by_cases hlt : k < n
    · have hlt' : (k : Int) < (n : Int) := by omega
      have hc : wr.cell? ⟨w.heap.size, k, none⟩ = some (.int .u8 ((((same k u ++ zeros (n - k))[k]'(by simp [same_length, zeros_length]; omega)).toNat : Int))) := by
        have := rowOf_get (same k u ++ zeros (n - k)) k (by simp [same_length, zeros_length]; omega)
        simp only [World.cell?, hr]
        simpa using this
      have hf : wr.frozen? ⟨w.heap.size, k, none⟩ = false := by simp [World.frozen?, hr]
      have hr2 : (wr.setCell ⟨w.heap.size, k, none⟩ (.int .u8 (u.toNat : Int))).heap[w.heap.size]? = some (.cells (rowOf (same (k + 1) u ++ zeros (n - (k + 1)))) 5) := by
        rw [setCell_eq_setRow wr w.heap.size k _ 5 (0, 0) _ hr, heap_setRow_same hr, same_mix n k u hlt]
      have K2 : Keeps w (wr.setCell ⟨w.heap.size, k, none⟩ (.int .u8 (u.toNat : Int))) (fun _ => False) := K.setCell ⟨w.heap.size, k, none⟩ (fun h => absurd h (Nat.lt_irrefl _)) _
      generalize ((same k u ++ zeros (n - k))[k]'(by simp [same_length, zeros_length]; omega)).toNat = old at *
      clear hr K
      go_wp2_with fail
      go_roundw
      case rel => exact ⟨k + 1, by go_num, by omega, hr2, K2⟩
      case measure => simp [intOf]; omega
    · have hkn : k = n := by omega
      subst hkn
      have hlt' : ¬ (k : Int) < (k : Int) := by omega
      have htx := run_text wr ⟨w.heap.size, 0, none⟩ k k (same k u) (same_length k u) (fun j hj => by
        rw [addr_add, Nat.zero_add]
        have := rowOf_get (same k u ++ zeros (k - k)) j (by simp; omega)
        simp only [World.cell?, hr]
        simpa [List.getElem_append_left hj] using this)
      rw [hS] at htx
      have K2 := hide K
      clear hr K hS
      go_wp2_with fail
      go_ret
      exact ⟨rfl, K2.out⟩
end Go.Proofs.Ytgmcpjklgacdpaa
namespace Go.Proofs.Ytgmcpjklgacdpaa
open Go.RowKit Go.Shelf

/-- An arena in which the span is good or not. -/
structure GoodIs (d : AD) (off n : Int) (G : Bool) : Prop where
  fine : d.Fine
  small : d.small
  good : d.goodB off n = G
theorem GoodIs.bytes {d : AD} {off n : Int} {G : Bool} (h : GoodIs d off n G) {bs : List UInt8} (hl : bs.length = d.bs.length) : GoodIs (d.bytes bs) off n G := ⟨h.fine.bytes hl, h.small, h.good⟩
theorem GoodIs.splice {d : AD} {off n : Int} (h : GoodIs d off n true) {x : List UInt8} (hx : x.length = n.toNat) : GoodIs (d.bytes (splice d.bs off.toNat x)) off n true := by
  obtain ⟨o, k, e1, e2, _, e3⟩ := h.fine.span h.good
  refine h.bytes (splice_length ?_)
  rw [hx, e1, e2]
  simpa using e3

section
variable {w w1 : World} {p : Nat} {d : AD} {off n : Int} {G : Bool}
theorem io_read (h : Own w w1 p (fun _ => False) d) (hG : GoodIs d off n G) (ho : fitsI off) (hn : fitsI n) :
    Calls Try.prog 20 #[.pointer (some ⟨p, 0, none⟩), .int .i64 off, .int .i64 n] w1 fun e w' => ∃ s : ByteArray, e = .returned (.tuple #[.string s, .int .i64 (wantOf G)]) ∧ (G = true → (s.size : Int) = n) ∧ (G = false → s = ByteArray.empty) ∧ Own w w' p (fun _ => False) d := by
  refine (own_read h hG.fine off n ho hn).mono ?_
  rintro e w' ⟨rfl, k⟩
  unfold readV
  rw [hG.good]
  cases G
  · exact ⟨ByteArray.empty, rfl, (fun e => by cases e), fun _ => rfl, h.stay k⟩
  · refine ⟨strOf (d.span off n), rfl, fun _ => ?_, (fun e => by cases e), h.stay k⟩
    obtain ⟨o, m, e1, e2, _, e3⟩ := hG.fine.span hG.good
    rw [e1, e2]
    simp [strOf, AD.span, ByteArray.size]
    omega
theorem io_equal (h : Own w w1 p (fun _ => False) d) (hG : GoodIs d off n G) (ho : fitsI off) (hn : fitsI n) :
    Calls Try.prog 21 #[.pointer (some ⟨p, 0, none⟩), .int .i64 off, .int .i64 off, .int .i64 n] w1 fun e w' => e = .returned (.tuple #[.bool G, .int .i64 (wantOf G)]) ∧ Own w w' p (fun _ => False) d := by
  refine (own_equal h hG.fine off off n ho ho hn).mono ?_
  rintro e w' ⟨rfl, k⟩
  unfold equalV
  rw [hG.good]
  cases G
  · exact ⟨rfl, h.stay k⟩
  · refine ⟨?_, h.stay k⟩
    have : eqS (strOf (d.span off n)) (strOf (d.span off n)) = true := by simp [eqS]
    simp [this, wantOf]
theorem io_fill (h : Own w w1 p (fun _ => False) d) (hG : GoodIs d off n G) (ho : fitsI off) (hn : fitsI n) (u : UInt8) :
    Calls Try.prog 22 #[.pointer (some ⟨p, 0, none⟩), .int .i64 off, .int .i64 n, .int .u8 (u.toNat : Int)] w1 fun e w' => e = .returned (.int .i64 (wantOf G)) ∧ ∃ d', GoodIs d' off n G ∧ Own w w' p (fun _ => False) d' := by
  refine (own_fill h hG.fine off n u ho hn).mono ?_
  rintro e w' ⟨rfl, ht⟩
  have ho' := h.turn ht (fun _ e => e.elim)
  unfold fillR at ho' ⊢
  rw [hG.good] at ho' ⊢
  cases G
  · exact ⟨rfl, _, hG, ho'⟩
  · exact ⟨rfl, _, hG.splice (by simp [same]), ho'⟩
theorem io_copy (h : Own w w1 p (fun _ => False) d) (hG : GoodIs d off n G) (ho : fitsI off) (hn : fitsI n) :
    Calls Try.prog 23 #[.pointer (some ⟨p, 0, none⟩), .int .i64 off, .int .i64 off, .int .i64 n] w1 fun e w' => e = .returned (.int .i64 (wantOf G)) ∧ ∃ d', GoodIs d' off n G ∧ Own w w' p (fun _ => False) d' := by
  refine (own_copy h hG.fine off off n ho ho hn).mono ?_
  rintro e w' ⟨rfl, ht⟩
  have ho' := h.turn ht (fun _ e => e.elim)
  unfold copyR at ho' ⊢
  rw [hG.good] at ho' ⊢
  cases G
  · exact ⟨rfl, _, hG, ho'⟩
  · refine ⟨rfl, _, hG.splice ?_, ho'⟩
    obtain ⟨o, m, e1, e2, _, e3⟩ := hG.fine.span hG.good
    rw [e1, e2]
    simp
    omega
theorem io_load (h : Own w w1 p (fun _ => False) d) (hG : GoodIs d off n G) (ho : fitsI off) (hn : fitsI n) :
    Calls Try.prog 26 #[.pointer (some ⟨p, 0, none⟩), .int .i64 off, .int .i64 n] w1 fun e w' => ∃ v : Int, e = .returned (.tuple #[.int .u64 v, .int .i64 (if widthB n then wantOf G else 10)]) ∧ Own w w' p (fun _ => False) d := by
  refine (own_load h hG.fine off n ho hn).mono ?_
  rintro e w' ⟨rfl, k⟩
  unfold loadV
  rw [hG.good]
  cases widthB n <;> cases G <;> exact ⟨_, rfl, h.stay k⟩
theorem io_store (h : Own w w1 p (fun _ => False) d) (hG : GoodIs d off n G) (ho : fitsI off) (hn : fitsI n) (v : Nat) :
    Calls Try.prog 27 #[.pointer (some ⟨p, 0, none⟩), .int .i64 off, .int .i64 n, .int .u64 (v : Int)] w1 fun e w' => e = .returned (.int .i64 (if widthB n then wantOf G else 10)) ∧ ∃ d', Own w w' p (fun _ => False) d' := by
  refine (own_store h hG.fine off n v ho hn).mono ?_
  rintro e w' ⟨rfl, ht⟩
  have ho' := h.turn ht (fun _ e => e.elim)
  refine ⟨?_, _, ho'⟩
  unfold storeR
  rw [hG.good]
  cases widthB n <;> cases G <;> rfl
theorem io_write (h : Own w w1 p (fun _ => False) d) (hG : GoodIs d off n G) (ho : fitsI off) (t : ByteArray) (ht : (t.size : Int) = n) (hn : n ≤ 4096) :
    Calls Try.prog 24 #[.pointer (some ⟨p, 0, none⟩), .int .i64 off, .slice (some ⟨w1.heap.size, 0, none⟩) 1 1] (w1.alloc (.cells #[.string t] 9)) fun e w' => e = .returned (.int .i64 (wantOf G)) ∧ ∃ d', GoodIs d' off n G ∧ Own w w' p (fun _ => False) d' := by
  have k0 : Keeps w1 (w1.alloc (.cells #[.string t] 9)) (fun _ => False) := (Keeps.refl _ _).alloc _
  have h1 := h.stay k0
  have hT : TextsAt (w1.alloc (.cells #[.string t] 9)) (some ⟨w1.heap.size, 0, none⟩) [t] := by
    intro j hj
    have hj0 : j = 0 := by simpa using hj
    subst hj0
    refine ⟨w1.heap.size, 0, rfl, by simp, ?_⟩
    simp only [World.cell?, heap_alloc_new]
    simp
  have hl : ((lens [t] : Nat) : Int) = n := by simp [lens]; exact ht
  refine (awrite_any joinOK h1.here hG.fine hG.small off (some ⟨w1.heap.size, 0, none⟩) 1 [t] ho (by simp) (by simp) (fun x hx => by simp at hx; subst hx; omega) hT).mono ?_
  rintro e w' ⟨rfl, htt⟩
  have ho' := h1.turn htt (fun _ e => e.elim)
  have hle : decide (lens [t] ≤ 1048576) = true := decide_eq_true (by omega)
  unfold writeR at ho' ⊢
  rw [hl, hG.good, hle] at ho' ⊢
  cases G
  · exact ⟨rfl, _, hG, ho'⟩
  · refine ⟨rfl, _, hG.splice ?_, ho'⟩
    rw [joined_length]
    omega
end
end Go.Proofs.Ytgmcpjklgacdpaa
