import Derived.Lib.Join
import Derived.Deep.RegionHeld
import Derived.Deep.AppendLies
import Derived.Test.YtdlibnjgmdffnaaGreatFn8
namespace Go.Proofs.YtdlibnjgmdffnaaGreat
open Go.RowKit Go.Shelf

/-- A list of texts behind an address. -/
def TextsAt (w : World) (a : Option Addr) (ts : List ByteArray) : Prop := ∀ j (h : j < ts.length), ∃ b o, a = some ⟨b, o, none⟩ ∧ b < w.heap.size ∧ w.cell? ⟨b, o + j, none⟩ = some (.string ts[j])
theorem TextsAt.two {w : World} {a : Option Addr} {ts : List ByteArray} (h : TextsAt w a ts) : ts = [] ∨ ∃ b o, a = some ⟨b, o, none⟩ ∧ b < w.heap.size ∧ 0 < ts.length ∧ ∀ j (h : j < ts.length), w.cell? ⟨b, o + j, none⟩ = some (.string ts[j]) := by
  cases ts with
  | nil => exact Or.inl rfl
  | cons z r =>
    obtain ⟨b, o, e, hb, _⟩ := h 0 (by simp)
    refine Or.inr ⟨b, o, e, hb, by simp, fun j hj => ?_⟩
    obtain ⟨b', o', e', _, hc⟩ := h j hj
    rw [e] at e'
    cases e'
    exact hc
theorem TextsAt.keeps {w w' : World} {a : Option Addr} {ts : List ByteArray} (h : TextsAt w a ts) (k : Keeps w w' (fun _ => False)) : TextsAt w' a ts := by
  intro j hj
  obtain ⟨b, o, e, hb, hc⟩ := h j hj
  exact ⟨b, o, e, Nat.lt_of_lt_of_le hb k.size, (World.cell?_of_block (w := w) (a := ⟨b, o + j, none⟩) (k.block b hb id)).trans hc⟩
def lens : List ByteArray → Nat
  | [] => 0
  | t :: r => t.size + lens r
theorem lens_append (a b : List ByteArray) : lens (a ++ b) = lens a + lens b := by
  induction a with
  | nil => simp [lens]
  | cons t r ih => simp [lens, ih]; omega
theorem lens_take_succ {ts : List ByteArray} {k : Nat} (hk : k < ts.length) : lens (ts.take (k + 1)) = lens (ts.take k) + ts[k].size := by
  rw [List.take_succ_eq_append_getElem hk, lens_append]
  simp [lens]
theorem lens_take_le (ts : List ByteArray) (k : Nat) : lens (ts.take k) ≤ lens ts := by
  have := lens_append (ts.take k) (ts.drop k)
  rw [List.take_append_drop] at this
  omega
/-- All of them, one behind the other. -/
def joined (ts : List ByteArray) : List UInt8 := Lib.join (ts.map (·.data.toList)) []
theorem joined_eq : ∀ ts : List ByteArray, joined ts = (ts.map (·.data.toList)).flatten
  | [] => rfl
  | [t] => by simp [joined, Lib.join, List.intercalate]
  | t :: s :: r => by
    have := joined_eq (s :: r)
    simp only [joined, Lib.join, List.map_cons] at this ⊢
    rw [List.intercalate_cons_cons, this]
    simp
theorem joined_length (ts : List ByteArray) : (joined ts).length = lens ts := by
  rw [joined_eq]
  induction ts with
  | nil => rfl
  | cons t r ih =>
    simp only [List.map_cons, List.flatten_cons, List.length_append, ih, lens]
    simp

def LenPost (w : World) (ts : List ByteArray) (e : Ending) (w' : World) : Prop := ∃ n : Nat, e = .returned (.int .i64 (n : Int)) ∧ w' = w ∧ (n = lens ts ∨ (1048576 < n ∧ 1048576 < lens ts)) ∧ n ≤ 1125899906842624
set_option maxHeartbeats 1000000 in
theorem length_nil (a : Option Addr) (cap : Nat) (w : World) : Calls Tryz.prog 82 #[.slice a 0 cap] w fun e w' => LenPost w [] e w' := by
  go_enter Tryz.func82, Tryz.ntmps82
  go_wp2_with fail
  go_loop [3, 8] (fun n i => n = .int .i64 0 ∧ i = .int .i64 0) (fun _ _ => 0)
  case atStart => exact ⟨rfl, rfl⟩
  case round =>
    obtain ⟨rfl, rfl⟩ := hrel
    go_wp2_with fail
    go_ret
    exact ⟨0, rfl, rfl, Or.inl rfl, by omega⟩

set_option maxHeartbeats 1000000 in
theorem length_some (b o cap : Nat) (ts : List ByteArray) (w : World) (hbig : ts.length ≤ 140737488355328) (hsz : ∀ t ∈ ts, t.size ≤ 140737488355328) (hc : ∀ j (h : j < ts.length), w.cell? ⟨b, o + j, none⟩ = some (.string ts[j])) :
    Calls Tryz.prog 82 #[.slice (some ⟨b, o, none⟩) ts.length cap] w fun e w' => LenPost w ts e w' := by
  go_enter Tryz.func82, Tryz.ntmps82
  go_wp2_with fail
  go_loop [3, 8] (fun n i => ∃ k : Nat, i = .int .i64 (k : Int) ∧ n = .int .i64 ((lens (ts.take k) : Nat) : Int) ∧ k ≤ ts.length ∧ lens (ts.take k) ≤ 1048576) (fun _ i => ts.length - (intOf i).toNat)
  case atStart => exact ⟨0, rfl, rfl, Nat.zero_le _, by simp [lens]⟩
  case round =>
    obtain ⟨k, rfl, rfl, hk, hl⟩ := hrel
    by_cases hlt : k < ts.length
    · have hlt' : (k : Int) < (ts.length : Int) := by omega
      have hck := hc k hlt
      have hst := lens_take_succ hlt
      have hs := hsz _ (List.getElem_mem hlt)
      have hle := lens_take_le ts (k + 1)
      generalize ts[k]'hlt = t at *
      generalize lens (ts.take k) = N at *
      have HST := hide hst
      have HLE := hide hle
      clear hc hsz hst hle
      by_cases hbig1 : 1048576 < N + t.size
      · have hb' : (1048576 : Int) < (N : Int) + (t.size : Int) := by omega
        go_wp2_with fail
        go_ret
        exact ⟨N + t.size, by simp, rfl, Or.inr ⟨hbig1, by have := HST.out; have := HLE.out; omega⟩, by omega⟩
      · have hb' : ¬ (1048576 : Int) < (N : Int) + (t.size : Int) := by omega
        go_wp2_with fail
        go_round
        case rel => exact ⟨k + 1, by go_num, by rw [HST.out]; simp, by omega, by rw [HST.out]; omega⟩
        case measure => simp [intOf]; omega
    · have hlt' : ¬ (k : Int) < (ts.length : Int) := by omega
      have hall : ts.take k = ts := List.take_of_length_le (by omega)
      rw [hall] at hl ⊢
      generalize hN : lens ts = N at *
      clear hc
      go_wp2_with fail
      go_ret
      exact ⟨N, rfl, rfl, Or.inl hN.symm, by omega⟩

theorem length_any {w : World} (a : Option Addr) (cap : Nat) (ts : List ByteArray) (hbig : ts.length ≤ 140737488355328) (hsz : ∀ t ∈ ts, t.size ≤ 140737488355328) (h : TextsAt w a ts) :
    Calls Tryz.prog 82 #[.slice a ts.length cap] w fun e w' => LenPost w ts e w' := by
  rcases h.two with rfl | ⟨b, o, rfl, _, _, hc⟩
  · exact length_nil a cap w
  · exact length_some b o cap ts w hbig hsz hc

/-- What the library's Join does. -/
def JoinOK : Prop := ∀ (a : Option Addr) (c : Nat) (ts : List ByteArray) (w : World), TextsAt w a ts → ts.length ≤ c → ts.length ≤ 140737488355328 → lens ts ≤ 1048576 →
  Calls Tryz.prog 83 #[.slice a ts.length c, .string ByteArray.empty] w fun e w' => e = .returned (.string (strOf (joined ts))) ∧ Keeps w w' (fun _ => False)

def writeR (d : AD) (off : Int) (ts : List ByteArray) : Int × AD := if d.goodB off (lens ts : Nat) && decide (lens ts ≤ 1048576) then (0, d.bytes (splice d.bs off.toNat (joined ts))) else (24, d)
/-- No block is greater than 1048576. -/
def AD.small (d : AD) : Prop := ∀ x ∈ d.L, x.2 ≤ 1048576
theorem AD.small_good {d : AD} (h : d.small) {off n : Int} (hn : 1048576 < n) : d.goodB off n = false := by
  cases hg : d.goodB off n
  · rfl
  · obtain ⟨x, hx, _, h0, h1, h2⟩ := AD.goodB_true hg
    have := h x hx
    omega

set_option maxHeartbeats 2000000 in
set_option maxRecDepth 100000 in
theorem awrite_any (hJ : JoinOK) {w : World} {p : Nat} {F : Nat → Prop} {d : AD} (hA : Arena w p F d) (hF : d.Fine) (hS : d.small) (off : Int) (a : Option Addr) (cap : Nat) (ts : List ByteArray) (ho : fitsI off) (hbig : ts.length ≤ 140737488355328) (hcap : ts.length ≤ cap) (hsz : ∀ t ∈ ts, t.size ≤ 140737488355328) (ht : TextsAt w a ts) :
    Calls Tryz.prog 55 #[.pointer (some ⟨p, 0, none⟩), .int .i64 off, .slice a ts.length cap] w fun e w' => ErrPost w p F (writeR d off ts).1 (writeR d off ts).2 e w' := by
  obtain ⟨c, h, hfo⟩ := hA.at
  have hl := length_any a cap ts hbig hsz ht
  have hg := fun (n : Nat) (hn : n ≤ 1125899906842624) => good_any h hF off (n : Int) ho (fitsI_mk (by omega) (by omega))
  unfold writeR
  cases hw : d.goodB off (lens ts : Nat) && decide (lens ts ≤ 1048576)
  · simp only [Bool.false_eq_true, if_false]
    have hno : ∀ n : Nat, (n = lens ts ∨ (1048576 < n ∧ 1048576 < lens ts)) → d.goodB off (n : Int) = false := by
      intro n hn
      rcases hn with rfl | ⟨hn, _⟩
      · by_cases h1 : lens ts ≤ 1048576
        · rw [decide_eq_true h1, Bool.and_true] at hw
          exact hw
        · exact AD.small_good hS (by omega)
      · exact AD.small_good hS (by omega)
    clear hw h hF hS
    go_enter Tryz.func55, Tryz.ntmps55
    go_wp2_with fail
    refine hl.mono ?_
    rintro e w1 ⟨n, rfl, rfl, hn, hnb⟩
    replace hg := hg n hnb
    rw [hno n hn] at hg
    clear hl hno hn
    go_wp2_with fail
    refine hg.mono ?_
    rintro e w2 ⟨rfl, k2⟩
    have T1 := hide (hA.same k2)
    clear hg k2 hA
    go_wp2_with fail
    go_ret
    exact ⟨rfl, T1.out⟩
  · simp only [if_true]
    rw [Bool.and_eq_true, decide_eq_true_eq] at hw
    obtain ⟨hw1, hw2⟩ := hw
    obtain ⟨o, k, rfl, hk, _, hok⟩ := hF.span hw1
    have hlk : lens ts = k := by omega
    subst hlk
    rw [Int.toNat_natCast]
    have hjl := joined_length ts
    go_enter Tryz.func55, Tryz.ntmps55
    go_wp2_with fail
    refine hl.mono ?_
    rintro e w1 ⟨n, rfl, rfl, hn, hnb⟩
    obtain rfl : n = lens ts := by
      rcases hn with e | ⟨_, e⟩
      · exact e
      · omega
    replace hg := hg (lens ts) hnb
    rw [hw1] at hg
    clear hl hn
    go_wp2_with fail
    refine hg.mono ?_
    rintro e w2 ⟨rfl, k2⟩
    have hjn := fun W (kW : Keeps w1 W (fun _ => False)) => hJ a cap ts W (ht.keeps kW) hcap hbig hw2
    have hcell := fun W (kW : Keeps w1 W (fun _ => False)) => (h.keeps kW (fun _ _ e => e)).cell2
    have hcell2 : ∀ W, Keeps w1 W (fun i => i = c.g) → W.cell? ⟨p, 2, none⟩ = some (.pointer (some ⟨c.b, 0, none⟩)) := fun W kW => (World.cell?_of_block (w := w1) (a := ⟨p, 2, none⟩) (kW.block p (heap_lt h.hp) h.p_g)).trans h.cell2
    have hwr : ∀ W V (hh n c' : Nat) (y : List UInt8) (fz : Nat × Nat), Keeps w1 W (fun _ => False) → w1.heap.size ≤ hh → W.heap[hh]? = some (.cells (rowOf (joined ts ++ y)) 5 fz) → n = (joined ts).length → V = W.heap.size →
        Calls Tryz.prog 63 #[.pointer (some ⟨c.b, 0, none⟩), .int .i64 (o : Int), .slice (some ⟨V, 0, none⟩) 1 1] (W.alloc (.cells #[.slice (some ⟨hh, 0, none⟩) n c'] 72)) fun e w' => WritePost (W.alloc (.cells #[.slice (some ⟨hh, 0, none⟩) n c'] 72)) c.b c.g (splice d.bs o (joined ts)) c.sp e w' :=
      fun W V hh n c' y fz kW hhh hr hn hV => write_one_yes (h.mem.keeps kW id id) hr (by have := heap_lt h.mem.hg; omega) hn (by omega) hV (by omega)
    have hend : ∀ W w5 e, Keeps w1 W (fun _ => False) → WritePost W c.b c.g (splice d.bs o (joined ts)) c.sp e w5 → Turned w1 w5 p F (d.bytes (splice d.bs o (joined ts))) := fun W w5 e kW hp => turned_wrote h hfo kW hp
    obtain ⟨S, hSe⟩ : ∃ S, strOf (joined ts) = S := ⟨_, rfl⟩
    have hjz : S.size = (joined ts).length := by rw [← hSe]; simp [strOf, ByteArray.size]
    have hjd : S.data.toList = joined ts := by rw [← hSe]; simp [strOf]
    rw [hSe] at hjn
    have HJZ := hide hjz
    have HJD := hide hjd
    clear hSe hjz hjd hS
    have k2d : Keeps w1 w2.drew (fun _ => False) := k2.drew
    clear hg h hA hJ hF ht hfo
    go_wp2_with fail
    go_region_held (fun w' => w'.cell? ⟨p, 2, none⟩ = some (.pointer (some ⟨c.b, 0, none⟩))) (first | exact hcell _ k2d | exact hcell _ k3 | exact hcell _ k4 | exact hcell _ k5 | exact hcell2 _ k6)
      (first
        | (go_at_call 83; refine (hjn _ k2d).mono ?_; rintro e w3 ⟨rfl, k3'⟩; have k3 := k2d.trans k3' (fun _ _ e => e); obtain ⟨w4, c4, fz, hconv, k4', hs4, hr4⟩ := bytes_of (P := Tryz.prog) w3 9 72 5 S Tryz.underlying9 Tryz.underlying72 Tryz.underlying5; have k4 := k3.trans k4' (fun _ _ e => e); have k5 : Keeps w1 (w4.alloc (.cells #[.slice (some ⟨w3.heap.size, 0, none⟩) S.size c4] 72)) (fun _ => False) := k4.alloc _)
        | (go_at_call 63; refine (hwr w4 _ w3.heap.size _ c4 _ fz k4 k3.size (by rw [HJD.out] at hr4; exact hr4) HJZ.out hs4.symm).mono ?_; intro e w5 hp5; have T1 := hide (hend _ _ _ k5 hp5); have k6 : Keeps w1 w5 (fun i => i = c.g) := (k5.mono (fun _ _ e => e.elim)).trans hp5.2.2 (fun _ _ e => e); obtain ⟨rfl, _, _⟩ := hp5))
    all_goals go_wp2_with fail
    all_goals go_ret
    all_goals exact ⟨rfl, T1.out⟩
end Go.Proofs.YtdlibnjgmdffnaaGreat
/-
  The document's arena and the program's, as data: what each step leaves of both.
-/
namespace Go.Proofs.YtdlibnjgmdffnaaGreat
open Go.RowKit Go.Shelf
set_option linter.unusedVariables false

/-- The block with other bytes; a dead one. -/
def RB.put (x : RB) (bs : List UInt8) : RB := ⟨x.off, x.live, x.g, bs, x.sp, x.fz⟩
def RB.dead (x : RB) : RB := ⟨x.off, false, x.g, x.bs, x.sp, x.fz⟩
theorem span_get (l : List UInt8) (o n j : Nat) : ((l.drop o).take n)[j]? = if j < n then l[o + j]? else none := by
  rw [List.getElem?_take]
  split
  · rw [List.getElem?_drop]
  · rfl
theorem span_ext {l m : List UInt8} {o n : Nat} (h : ∀ j, j < n → m[o + j]? = l[o + j]?) : (m.drop o).take n = (l.drop o).take n := by
  refine List.ext_getElem? fun j => ?_
  rw [span_get, span_get]
  split
  · rename_i hj
    exact h j hj
  · rfl

section
variable {d : AD} {xs : List RB}
theorem Sim.few (F : d.Fine) (s : Sim d xs) : xs.length ≤ 134217728 := by
  have := tiles_length F.tiles
  have := F.most
  have := s.len
  omega
theorem Sim.small (s : Sim d xs) (hd : d.small) {k : Nat} (hk : k < xs.length) : xs[k].bs.length ≤ 1048576 := hd _ (s.mem hk)
theorem Sim.good (F : d.Fine) (s : Sim d xs) {off n : Int} {k : Nat} (hk : k < xs.length) (h : xs[k].has off n) : d.goodB off n = true :=
  AD.goodB_mk (s.mem hk) (s.lv F hk h.1) h.2.1 h.2.2.1 h.2.2.2
theorem Sim.bad (F : d.Fine) (s : Sim d xs) {off n : Int} (h : ∀ k (hk : k < xs.length), ¬ xs[k].has off n) : d.goodB off n = false := by
  cases hg : d.goodB off n
  · rfl
  · exfalso
    obtain ⟨x, hx, h1, h2, h3, h4⟩ := AD.goodB_true hg
    obtain ⟨i, hi, e1, e2⟩ := s.find hx
    refine h i hi ⟨?_, h2, by rw [e1]; exact h3, by rw [e1, e2]; exact h4⟩
    rw [s.live hi, e1, h1]
    rfl
/-- The bytes of a good span, by the block's own. -/
theorem Sim.span (s : Sim d xs) {k : Nat} (hk : k < xs.length) {a n : Nat} (hl : xs[k].live = true) (hn : a + n ≤ xs[k].bs.length) : (xs[k].bs.drop a).take n = (d.bs.drop (xs[k].off + a)).take n := by
  refine List.ext_getElem? fun j => ?_
  rw [span_get, span_get]
  split
  · rw [s.bs k hk hl, span_get, if_pos (by omega), Nat.add_assoc]
  · rfl

theorem set_get {i j : Nat} {y : RB} (h : j < (xs.set i y).length) : (xs.set i y)[j] = if i = j then y else xs[j]'(by simpa using h) := by
  rw [List.getElem_set]

/-- Bytes are written inside a live block. -/
theorem Sim.wrote (F : d.Fine) (s : Sim d xs) {k : Nat} (hk : k < xs.length) {a : Nat} {y : List UInt8} (hl : xs[k].live = true) (hn : a + y.length ≤ xs[k].bs.length) :
    Sim (d.bytes (splice d.bs (xs[k].off + a) y)) (xs.set k (xs[k].put (splice xs[k].bs a y))) := by
  have hb := s.bound F hk
  have hlen : (splice xs[k].bs a y).length = xs[k].bs.length := splice_length hn
  refine ⟨by simp [s.len, AD.bytes], fun i hi hi' => ?_, fun i hi hlv => ?_⟩
  · have hi2 : i < xs.length := by simpa using hi
    obtain ⟨a1, a2, a3⟩ := s.one i hi2 hi'
    rw [set_get]
    split
    · rename_i e
      subst e
      exact ⟨a1, by show (splice xs[k].bs a y).length = d.L[k].2; rw [hlen]; exact a2, a3⟩
    · exact ⟨a1, a2, a3⟩
  · have hi2 : i < xs.length := by simpa using hi
    rw [set_get] at hlv ⊢
    split
    · rename_i e
      subst e
      simp only [RB.put, hlen]
      refine List.ext_getElem? fun j => ?_
      show _ = (((splice d.bs (xs[k].off + a) y).drop xs[k].off).take xs[k].bs.length)[j]?
      rw [span_get, splice_get hn]
      by_cases hj : j < xs[k].bs.length
      · rw [if_pos hj, splice_get (by omega)]
        by_cases h1 : a ≤ j ∧ j < a + y.length
        · rw [if_pos h1, if_pos (by omega)]
          congr 1
          omega
        · rw [if_neg h1, if_neg (by omega), s.bs k hk hl, span_get, if_pos hj]
      · rw [if_neg hj, if_neg (by omega), List.getElem?_eq_none (by omega)]
    · rename_i e
      rw [if_neg e] at hlv
      have h1 := s.bs i hi2 hlv
      have hbi := s.bound F hi2
      have hd : xs[k].off + xs[k].bs.length ≤ xs[i].off ∨ xs[i].off + xs[i].bs.length ≤ xs[k].off := by
        rcases Nat.lt_or_ge k i with h2 | h2
        · exact Or.inl (s.inj F hk hi2 h2)
        · exact Or.inr (s.inj F hi2 hk (by omega))
      show xs[i].bs = ((splice d.bs (xs[k].off + a) y).drop xs[i].off).take xs[i].bs.length
      rw [span_ext (l := d.bs) (fun j hj => by rw [splice_get (by omega), if_neg (by omega)])]
      exact h1

/-- A block is taken at the end. -/
theorem Sim.took (F : d.Fine) (s : Sim d xs) {c g : Nat} (hc : 0 < c) : Sim (d.took c) (xs ++ [⟨d.bs.length, true, g, zeros c, [], (0, 0)⟩]) := by
  refine ⟨by simp [AD.took_L, s.len], fun i hi hi' => ?_, fun i hi hlv => ?_⟩
  · simp only [AD.took_L, AD.took_lv]
    by_cases h1 : i < xs.length
    · have h1' : i < d.L.length := by rw [← s.len]; exact h1
      obtain ⟨a1, a2, a3⟩ := s.one i h1 h1'
      rw [List.getElem_append_left h1, List.getElem_append_left h1', upd_other]
      · exact ⟨a1, a2, a3⟩
      · have := tiles_mem F.tiles (List.getElem_mem h1')
        omega
    · have h2 : i = xs.length := by simp at hi; omega
      subst h2
      have e1 : (xs ++ [(⟨d.bs.length, true, g, zeros c, [], (0, 0)⟩ : RB)])[xs.length]'hi = ⟨d.bs.length, true, g, zeros c, [], (0, 0)⟩ := by simp
      have e2 : (d.L ++ [(d.bs.length, c)])[xs.length]'(by simpa [AD.took_L] using hi') = (d.bs.length, c) := by
        have : xs.length = d.L.length := s.len
        simp [this]
      rw [e1, e2]
      simp [zeros_length, upd_same]
  · by_cases h1 : i < xs.length
    · rw [List.getElem_append_left h1] at hlv ⊢
      have hb := s.bound F h1
      rw [AD.took_bs, span_ext (l := d.bs) (fun j hj => by rw [List.getElem?_append_left (by omega)])]
      exact s.bs i h1 hlv
    · have h2 : i = xs.length := by simp at hi; omega
      subst h2
      have e1 : (xs ++ [(⟨d.bs.length, true, g, zeros c, [], (0, 0)⟩ : RB)])[xs.length]'hi = ⟨d.bs.length, true, g, zeros c, [], (0, 0)⟩ := by simp
      rw [e1, AD.took_bs]
      simp only [zeros_length, List.drop_left']
      rw [List.take_of_length_le (by rw [zeros_length]; exact Nat.le_refl _)]

/-- A free block is taken again. -/
theorem Sim.retook (F : d.Fine) (s : Sim d xs) {k : Nat} (hk : k < xs.length) {c g : Nat} {r : List Int} (hc : xs[k].bs.length = c) :
    Sim (d.retook c xs[k].off r) (xs.set k ⟨xs[k].off, true, g, zeros c, [], (0, 0)⟩) := by
  subst hc
  have hb := s.bound F hk
  have hz : (zeros xs[k].bs.length).length = xs[k].bs.length := zeros_length _
  refine ⟨by simp [AD.retook_L, s.len], fun i hi hi' => ?_, fun i hi hlv => ?_⟩
  · have hi2 : i < xs.length := by simpa using hi
    simp only [AD.retook_L, AD.retook_lv]
    have hi3 : i < d.L.length := by rw [← s.len]; exact hi2
    obtain ⟨a1, a2, a3⟩ := s.one i hi2 hi3
    rw [set_get]
    split
    · rename_i e
      subst e
      refine ⟨a1, by rw [hz]; exact a2, ?_⟩
      rw [a1, upd_same]
      rfl
    · rename_i e
      refine ⟨a1, a2, ?_⟩
      rw [upd_other]
      · exact a3
      · have hbi := s.bound F hi2
        rcases Nat.lt_or_ge k i with h2 | h2
        · have := s.inj F hk hi2 h2
          omega
        · have := s.inj F hi2 hk (by omega)
          omega
  · have hi2 : i < xs.length := by simpa using hi
    rw [set_get] at hlv ⊢
    rw [AD.retook_bs]
    split
    · rename_i e
      subst e
      simp only [hz]
      refine List.ext_getElem? fun j => ?_
      rw [span_get]
      by_cases hj : j < xs[k].bs.length
      · rw [if_pos hj, splice_get (by omega), if_pos (by omega)]
        congr 1
        omega
      · rw [if_neg hj, List.getElem?_eq_none (by omega)]
    · rename_i e
      rw [if_neg e] at hlv
      have h1 := s.bs i hi2 hlv
      have hd : xs[k].off + xs[k].bs.length ≤ xs[i].off ∨ xs[i].off + xs[i].bs.length ≤ xs[k].off := by
        rcases Nat.lt_or_ge k i with h2 | h2
        · exact Or.inl (s.inj F hk hi2 h2)
        · exact Or.inr (s.inj F hi2 hk (by omega))
      have hbi := s.bound F hi2
      rw [span_ext (l := d.bs) (fun j hj => by rw [splice_get (by omega), if_neg (by omega)])]
      exact h1

/-- A block is freed. -/
theorem Sim.gone (F : d.Fine) (s : Sim d xs) {k : Nat} (hk : k < xs.length) {z : Int} (hz : (xs[k].off : Int) = z) {d' : AD} (hg : Gone d z d') : Sim d' (xs.set k xs[k].dead) := by
  subst hz
  have e1 := hg.L
  have e2 := hg.bs
  have e3 := hg.lv
  refine ⟨by simp [e1, s.len], fun i hi hi' => ?_, fun i hi hlv => ?_⟩
  · have hi2 : i < xs.length := by simpa using hi
    have hi3 : i < d.L.length := by rw [← s.len]; exact hi2
    obtain ⟨a1, a2, a3⟩ := s.one i hi2 hi3
    have e4 : d'.L[i] = d.L[i] := by simp [e1]
    rw [e4, e3, set_get]
    split
    · rename_i e
      subst e
      refine ⟨a1, a2, ?_⟩
      rw [a1, upd_same]
      rfl
    · rename_i e
      refine ⟨a1, a2, ?_⟩
      rw [upd_other]
      · exact a3
      · have hbi := s.bound F hi2
        have hb := s.bound F hk
        rcases Nat.lt_or_ge k i with h2 | h2
        · have := s.inj F hk hi2 h2
          omega
        · have := s.inj F hi2 hk (by omega)
          omega
  · have hi2 : i < xs.length := by simpa using hi
    rw [set_get] at hlv ⊢
    rw [e2]
    split
    · rename_i e
      rw [if_pos e] at hlv
      cases hlv
    · rename_i e
      rw [if_neg e] at hlv
      exact s.bs i hi2 hlv
end

/-- Which block is taken, by the reference's list: the first free one of that class. -/
theorem Sim.again {d : AD} {xs : List RB} (F : d.Fine) (hR : d.rises) (s : Sim d xs) {c k : Nat} (hk : k < xs.length) (h1 : xs[k].live = false) (h2 : xs[k].bs.length = c) (h3 : ∀ j (hj : j < xs.length), j < k → ¬ (xs[j].live = false ∧ xs[j].bs.length = c)) :
    ∃ r, d.fm (c : Int) = some ((xs[k].off : Int) :: r) := by
  have hlv : d.lv (xs[k].off : Int) = none := by
    have := s.live hk
    rw [h1] at this
    cases h : d.lv (xs[k].off : Int) with
    | none => rfl
    | some t => rw [h] at this; cases this
  obtain ⟨ys, e1, e2⟩ := F.free.all _ (s.mem hk) hlv
  simp only [h2] at e1 e2
  cases ys with
  | nil => cases e2
  | cons z r =>
    refine ⟨r, ?_⟩
    have hz := F.free.mem _ _ e1 z (by simp)
    obtain ⟨hz1, y, hy, hz2, hz3⟩ := hz
    obtain ⟨i, hi, f1, f2⟩ := s.find hy
    have hi1 : xs[i].live = false := by
      rw [s.live hi, f1, ← hz2, hz1]
      rfl
    have hi2 : xs[i].bs.length = c := by rw [f2]; omega
    have hki : k ≤ i := by
      refine Nat.le_of_not_lt fun hlt => ?_
      exact h3 i hi hlt ⟨hi1, hi2⟩
    have hle : z ≤ (xs[k].off : Int) := by
      rcases List.mem_cons.1 e2 with e | e
      · omega
      · have := (List.pairwise_cons.1 (hR _ _ e1)).1 _ e
        omega
    have hik : i = k := by
      rcases Nat.lt_or_ge k i with h5 | h5
      · have := s.inj F hk hi h5
        have := s.bound F hk
        omega
      · omega
    subst hik
    rw [e1, hz2, f1]
theorem Sim.none {d : AD} {xs : List RB} (F : d.Fine) (s : Sim d xs) {c : Nat} (h : ∀ j (hj : j < xs.length), ¬ (xs[j].live = false ∧ xs[j].bs.length = c)) : d.fm (c : Int) = Option.none ∨ d.fm (c : Int) = some [] := by
  cases e : d.fm (c : Int) with
  | none => exact Or.inl rfl
  | some ys =>
    cases ys with
    | nil => exact Or.inr rfl
    | cons z r =>
      exfalso
      obtain ⟨hz1, y, hy, hz2, hz3⟩ := F.free.mem _ _ e z (by simp)
      obtain ⟨i, hi, f1, f2⟩ := s.find hy
      refine h i hi ⟨?_, by rw [f2]; omega⟩
      rw [s.live hi, f1, ← hz2, hz1]
      rfl
theorem listT_again {d : AD} {c z : Nat} {r : List Int} (h : d.fm (c : Int) = some ((z : Int) :: r)) : listT d c = (z, d.retook c z r) := by
  unfold listT
  rw [h]
  simp
theorem listT_new {d : AD} {c : Nat} (h : d.fm (c : Int) = Option.none ∨ d.fm (c : Int) = some []) : listT d c = (d.bs.length, d.took c) := by
  unfold listT
  rcases h with h | h <;> rw [h]
end Go.Proofs.YtdlibnjgmdffnaaGreat
/-
  The document's arena in the memory: a block's mark, its bytes, one block more.
-/
namespace Go.Proofs.YtdlibnjgmdffnaaGreat
open Go.RowKit Go.Shelf
set_option linter.unusedVariables false

theorem list_set_same {α : Type} {l : List α} {j : Nat} {a : α} (h : l[j]? = some a) : l.set j a = l := by
  refine List.ext_getElem? fun i => ?_
  rw [List.getElem?_set]
  split
  · rename_i e
    subst e
    have := (List.getElem?_eq_some_iff.1 h).1
    rw [if_pos this, h]
  · rfl
theorem set_cell_rowF {w : World} {q : Nat} {cs : Array Value} {t : TypeId} {fz : Nat × Nat} (h : w.heap[q]? = some (.cells cs t fz)) (i : Nat) (v : Value) : (w.setCell ⟨q, i, none⟩ v).heap[q]? = some (.cells (cs.setIfInBounds i v) t fz) := by
  have hlt := heap_lt h
  have hv := (Array.getElem?_eq_some_iff.1 h).2
  simp only [World.setCell, Array.getElem?_modify]
  simp [hlt, hv]
theorem rbCells_live (xs : List RB) (i : Nat) (b : Bool) (h : i < xs.length) : (rbCells xs).set (i * 3 + 1) (.bool b) = rbCells (xs.set i ⟨xs[i].off, b, xs[i].g, xs[i].bs, xs[i].sp, xs[i].fz⟩) := by
  obtain ⟨e0, e1, e2⟩ := rbCells_get xs i h
  rw [rbCells_set xs i _ h, list_set_same e0, list_set_same (l := (rbCells xs).set (i * 3 + 1) _)]
  rw [List.getElem?_set_ne (by omega)]
  exact e2
theorem rbCells_bytes (xs : List RB) (i g : Nat) (bs : List UInt8) (h : i < xs.length) : (rbCells xs).set (i * 3 + 2) (.slice (some ⟨g, 0, none⟩) bs.length bs.length) = rbCells (xs.set i ⟨xs[i].off, xs[i].live, g, bs, [], (0, 0)⟩) := by
  obtain ⟨e0, e1, e2⟩ := rbCells_get xs i h
  rw [rbCells_set xs i _ h, list_set_same e0, list_set_same e1]
  simp
theorem rbCells_put (xs : List RB) (i : Nat) (bs : List UInt8) (h : i < xs.length) (hl : bs.length = xs[i].bs.length) : rbCells (xs.set i (xs[i].put bs)) = rbCells xs := by
  obtain ⟨e0, e1, e2⟩ := rbCells_get xs i h
  rw [rbCells_set xs i _ h]
  simp only [RB.put, hl]
  rw [list_set_same e0, list_set_same e1, list_set_same e2]

/-- The row of the list is written. -/
theorem RAt.rowed {w w' : World} {r lim en : Nat} {v : Value} {xs ys : List RB} (h : RAt w r lim en v xs) {g cap : Nat} (hv : v = .slice (some ⟨g, 0, none⟩) xs.length cap) (k : Keeps w w' (fun b => b = g)) {cs : Array Value} (hg : w'.heap[g]? = some (.cells cs 74)) (hs : cs.size = cap * 3)
    (hl : ys.length = xs.length) (ht : cs.toList.take (xs.length * 3) = rbCells ys) (hb : ∀ i (hi : i < ys.length), w'.heap[ys[i].g]? = some (.cells (rowOf (ys[i].bs ++ ys[i].sp)) 5 ys[i].fz)) (ha : ∀ i j (hi : i < ys.length) (hj : j < ys.length), ys[i].g = ys[j].g → i = j) (hth : ∀ i (hi : i < ys.length), ys[i].fz.2 = 0 ∨ (ys[i].bs ++ ys[i].sp).length ≤ ys[i].fz.1) : RAt w' r lim en v ys := by
  refine ⟨(k.block r (heap_lt h.hp) (h.r_row (by rw [hv]; rfl))).trans h.hp, ⟨by rw [rbCells_length], Or.inr ?_⟩, hb, ha, hth⟩
  rcases h.own.2 with ⟨h2, _⟩ | ⟨g', cap', cur, hv', h0, hg', r1, r2, r3, r4⟩
  · rw [hv] at h2
    cases h2
  · rw [hv] at hv'
    injection hv' with e1 _ e3
    injection e1 with e1
    injection e1 with e1
    subst e1 e3
    exact ⟨g, cap, cs, by rw [hv, hl], h0, hg, by omega, r2, hs, by rw [hl]; exact ht⟩

theorem RAt.setLive {w : World} {r lim en : Nat} {v : Value} {xs : List RB} (h : RAt w r lim en v xs) {g cap : Nat} (hv : v = .slice (some ⟨g, 0, none⟩) xs.length cap) {i : Nat} (hi : i < xs.length) (b : Bool) :
    RAt (w.setCell ⟨g, i * 3 + 1, none⟩ (.bool b)) r lim en v (xs.set i ⟨xs[i].off, b, xs[i].g, xs[i].bs, xs[i].sp, xs[i].fz⟩) ∧ Keeps w (w.setCell ⟨g, i * 3 + 1, none⟩ (.bool b)) (fun k => k = g) := by
  have k : Keeps w (w.setCell ⟨g, i * 3 + 1, none⟩ (.bool b)) (fun k => k = g) := Keeps.setCell (S := fun k => k = g) (Keeps.refl w _) ⟨g, _, none⟩ (fun _ => rfl) _
  rcases h.form with ⟨h2, _⟩ | ⟨g', cap', cur, hv', hg, h1, h2, h3⟩
  · rw [hv] at h2
    cases h2
  rw [hv] at hv'
  injection hv' with e1 _ e3
  injection e1 with e1
  injection e1 with e1
  subst e1 e3
  have hne : ∀ j (hj : j < xs.length), xs[j].g ≠ g := fun j hj e => h.row_byte (k := g) (by rw [hv]; rfl) hj e.symm
  have hget : ∀ j (hj : j < (xs.set i ⟨xs[i].off, b, xs[i].g, xs[i].bs, xs[i].sp, xs[i].fz⟩).length), (xs.set i ⟨xs[i].off, b, xs[i].g, xs[i].bs, xs[i].sp, xs[i].fz⟩)[j].g = (xs[j]'(by simpa using hj)).g ∧ (xs.set i ⟨xs[i].off, b, xs[i].g, xs[i].bs, xs[i].sp, xs[i].fz⟩)[j].bs = (xs[j]'(by simpa using hj)).bs ∧ (xs.set i ⟨xs[i].off, b, xs[i].g, xs[i].bs, xs[i].sp, xs[i].fz⟩)[j].sp = (xs[j]'(by simpa using hj)).sp ∧ (xs.set i ⟨xs[i].off, b, xs[i].g, xs[i].bs, xs[i].sp, xs[i].fz⟩)[j].fz = (xs[j]'(by simpa using hj)).fz := fun j hj => by
    rw [set_get]
    split
    · rename_i e
      subst e
      exact ⟨rfl, rfl, rfl, rfl⟩
    · exact ⟨rfl, rfl, rfl, rfl⟩
  refine ⟨h.rowed hv k (set_cell_row hg _ _) (by simp [h2]) (by simp) ?_ (fun j hj => ?_) (fun j l hj hl e => ?_) (fun j hj => ?_), k⟩
  · rw [Array.toList_setIfInBounds, List.take_set, h3, rbCells_live xs i b hi]
  · have hj' : j < xs.length := by simpa using hj
    rw [(hget j hj).1, (hget j hj).2.1, (hget j hj).2.2.1, (hget j hj).2.2.2]
    exact (k.block _ (heap_lt (h.bytes j hj')) (hne j hj')).trans (h.bytes j hj')
  · rw [(hget j hj).1, (hget l hl).1] at e
    exact h.apart j l (by simpa using hj) (by simpa using hl) e
  · rw [(hget j hj).2.1, (hget j hj).2.2.1, (hget j hj).2.2.2]
    exact h.thaw j (by simpa using hj)

/-- A block gets new bytes, in a block of their own. -/
theorem RAt.setBytes {w : World} {r lim en : Nat} {v : Value} {xs : List RB} (h : RAt w r lim en v xs) {g cap : Nat} (hv : v = .slice (some ⟨g, 0, none⟩) xs.length cap) {i : Nat} (hi : i < xs.length) {b : Nat} {bs : List UInt8} (hb : w.heap[b]? = some (.cells (rowOf bs) 5)) (hn : ∀ j (hj : j < xs.length), xs[j].g ≠ b) {n : Nat} (hbn : bs.length = n) :
    RAt (w.setCell ⟨g, i * 3 + 2, none⟩ (.slice (some ⟨b, 0, none⟩) n n)) r lim en v (xs.set i ⟨xs[i].off, xs[i].live, b, bs, [], (0, 0)⟩) ∧ Keeps w (w.setCell ⟨g, i * 3 + 2, none⟩ (.slice (some ⟨b, 0, none⟩) n n)) (fun k => k = g) := by
  subst hbn
  have k : Keeps w (w.setCell ⟨g, i * 3 + 2, none⟩ (.slice (some ⟨b, 0, none⟩) bs.length bs.length)) (fun k => k = g) := Keeps.setCell (S := fun k => k = g) (Keeps.refl w _) ⟨g, _, none⟩ (fun _ => rfl) _
  rcases h.form with ⟨h2, _⟩ | ⟨g', cap', cur, hv', hg, h1, h2, h3⟩
  · rw [hv] at h2
    cases h2
  rw [hv] at hv'
  injection hv' with e1 _ e3
  injection e1 with e1
  injection e1 with e1
  subst e1 e3
  have hne : ∀ j (hj : j < xs.length), xs[j].g ≠ g := fun j hj e => h.row_byte (k := g) (by rw [hv]; rfl) hj e.symm
  have hbg : b ≠ g := ne_of_obj hb hg (by simp)
  refine ⟨h.rowed hv k (set_cell_row hg _ _) (by simp [h2]) (by simp) ?_ (fun j hj => ?_) (fun j l hj hl e => ?_) (fun j hj => ?_), k⟩
  · rw [Array.toList_setIfInBounds, List.take_set, h3, rbCells_bytes xs i b bs hi]
  · have hj' : j < xs.length := by simpa using hj
    rw [set_get]
    split
    · simp only [List.append_nil]
      exact (k.block _ (heap_lt hb) hbg).trans hb
    · exact (k.block _ (heap_lt (h.bytes j hj')) (hne j hj')).trans (h.bytes j hj')
  · have hj' : j < xs.length := by simpa using hj
    have hl' : l < xs.length := by simpa using hl
    rw [set_get, set_get] at e
    by_cases a1 : i = j <;> by_cases a2 : i = l
    · omega
    · rw [if_pos a1, if_neg a2] at e
      exact absurd e.symm (hn l hl')
    · rw [if_neg a1, if_pos a2] at e
      exact absurd e (hn j hj')
    · rw [if_neg a1, if_neg a2] at e
      exact h.apart j l hj' hl' e
  · have hj' : j < xs.length := by simpa using hj
    rw [set_get]
    split
    · exact Or.inl rfl
    · exact h.thaw j hj'

/-- One byte of a block is written. -/
theorem RAt.setByte {w : World} {r lim en : Nat} {v : Value} {xs : List RB} (h : RAt w r lim en v xs) {i : Nat} (hi : i < xs.length) (p : Nat) (hp : p < xs[i].bs.length) (u : UInt8) :
    RAt (w.setCell ⟨xs[i].g, p, none⟩ (.int .u8 (u.toNat : Int))) r lim en v (xs.set i (xs[i].put (xs[i].bs.set p u))) ∧ Keeps w (w.setCell ⟨xs[i].g, p, none⟩ (.int .u8 (u.toNat : Int))) (fun k => k = xs[i].g) := by
  have k : Keeps w (w.setCell ⟨xs[i].g, p, none⟩ (.int .u8 (u.toNat : Int))) (fun k => k = xs[i].g) := Keeps.setCell (S := fun k => k = xs[i].g) (Keeps.refl w _) ⟨xs[i].g, p, none⟩ (fun _ => rfl) _
  have hrow : (rowOf (xs[i].bs ++ xs[i].sp)).setIfInBounds p (.int .u8 (u.toNat : Int)) = rowOf (xs[i].bs.set p u ++ xs[i].sp) := by
    apply Array.toList_inj.1
    rw [Array.toList_setIfInBounds, rowOf_toList, rowOf_toList, cellsOf, cellsOf, ← List.set_append_left _ _ hp, List.map_set]
    rfl
  refine ⟨⟨(k.block r (heap_lt h.hp) (h.r_byte hi)).trans h.hp, ?_, fun j hj => ?_, fun j l hj hl e => ?_, fun j hj => ?_⟩, k⟩
  · have h1 := ownsRow_keeps h.own k (fun g hg => h.row_byte hg hi)
    rw [rbCells_put xs i _ hi (by simp)]
    simpa using h1
  · have hj' : j < xs.length := by simpa using hj
    rw [set_get]
    split
    · rename_i e
      subst e
      simp only [RB.put]
      rw [set_cell_rowF (h.bytes i hi), hrow]
    · rename_i e
      exact (k.block _ (heap_lt (h.bytes j hj')) (fun e2 => e (h.apart i j hi hj' e2.symm))).trans (h.bytes j hj')
  · have hj' : j < xs.length := by simpa using hj
    have hl' : l < xs.length := by simpa using hl
    have hg : ∀ m (hm : m < (xs.set i (xs[i].put (xs[i].bs.set p u))).length), (xs.set i (xs[i].put (xs[i].bs.set p u)))[m].g = (xs[m]'(by simpa using hm)).g := fun m hm => by
      rw [set_get]
      split
      · rename_i e
        subst e
        rfl
      · rfl
    rw [hg, hg] at e
    exact h.apart j l hj' hl' e
  · have hj' : j < xs.length := by simpa using hj
    rw [set_get]
    split
    · rename_i e
      subst e
      have := h.thaw i hi
      simpa [RB.put] using this
    · exact h.thaw j hj'

theorem Tryz.infoRBlock : (Tryz.prog.info? 74).map (fun i => (i.zero, i.size, i.bytes)) = some (some (.agg #[.int .i64 0, .bool false, .slice none 0 0]), 3, 40) := by kernel_rfl
theorem rset2 {w : World} {r : Nat} {a b c u : Value} {t : TypeId} (h : w.heap[r]? = some (.cells #[a, b, c] t)) : (w.setCell ⟨r, 2, none⟩ u).heap[r]? = some (.cells #[a, b, u] t) := by
  rw [set_cell_row h]
  rfl
theorem rset1 {w : World} {r : Nat} {a b c u : Value} {t : TypeId} (h : w.heap[r]? = some (.cells #[a, b, c] t)) : (w.setCell ⟨r, 1, none⟩ u).heap[r]? = some (.cells #[a, u, c] t) := by
  rw [set_cell_row h]
  rfl

set_option maxHeartbeats 2000000 in
/-- One block more: y, whose bytes lie in a block of their own. -/
theorem RAt.pushY {w : World} {r lim en : Nat} {v : Value} {xs : List RB} (h : RAt w r lim en v xs) (hn : xs.length ≤ 134217728) (y : RB) (hy : w.heap[y.g]? = some (.cells (rowOf (y.bs ++ y.sp)) 5 y.fz)) (hth : y.fz.2 = 0 ∨ (y.bs ++ y.sp).length ≤ y.fz.1) (hnb : ∀ j (hj : j < xs.length), xs[j].g ≠ y.g) :
    ∃ w' g2 c2, (∀ ty, (Builtin.append_ #[56, 56] ty #[v, .slice (some ⟨w.heap.size, 0, none⟩) 1 1]).run Tryz.prog (w.alloc (.cells y.cells.toArray 74)) = .ok (.slice (some ⟨g2, 0, none⟩) (xs.length + 1) c2) w') ∧
      w'.cell? ⟨r, 0, none⟩ = some (.int .i64 (lim : Int)) ∧ w'.cell? ⟨r, 1, none⟩ = some (.int .i64 (en : Int)) ∧ w'.cell? ⟨r, 2, none⟩ = some v ∧ (∀ j, w'.frozen? ⟨r, j, none⟩ = false) ∧
      (∀ e2 : Nat, Hid (RAt ((w'.setCell ⟨r, 2, none⟩ (.slice (some ⟨g2, 0, none⟩) (xs.length + 1) c2)).setCell ⟨r, 1, none⟩ (.int .i64 (e2 : Int))) r lim e2 (.slice (some ⟨g2, 0, none⟩) (xs.length + 1) c2) (xs ++ [y]))) ∧
      (∀ u, Hid (Keeps w ((w'.setCell ⟨r, 2, none⟩ (.slice (some ⟨g2, 0, none⟩) (xs.length + 1) c2)).setCell ⟨r, 1, none⟩ u) (fun k => k = r ∨ v.ownBlock = some k))) ∧ (v.ownBlock = some g2 ∨ w.heap.size ≤ g2) ∧
      Hid (RAt (w'.setCell ⟨r, 2, none⟩ (.slice (some ⟨g2, 0, none⟩) (xs.length + 1) c2)) r lim en (.slice (some ⟨g2, 0, none⟩) (xs.length + 1) c2) (xs ++ [y]) ∧ Keeps w (w'.setCell ⟨r, 2, none⟩ (.slice (some ⟨g2, 0, none⟩) (xs.length + 1) c2)) (fun k => k = r ∨ v.ownBlock = some k)) := by
  obtain ⟨i, hi1, hi2, hi3, hi4⟩ := info_parts Tryz.infoRBlock
  have k0 : Keeps w (w.alloc (.cells y.cells.toArray 74)) (fun _ => False) := (Keeps.refl _ _).alloc _
  have hnew := heap_alloc_new w (.cells y.cells.toArray 74)
  have hsz : (w.alloc (.cells y.cells.toArray 74)).heap.size = w.heap.size + 1 := by simp
  generalize (w.alloc (.cells y.cells.toArray 74)) = w2 at *
  obtain ⟨g2, c2, w', hr, h2, h3, h4, _⟩ := run_append_lies (P := Tryz.prog) w2 56 0 0 74 i (.agg #[.int .i64 0, .bool false, .slice none 0 0]) 3 40 Tryz.underlying56 hi1 hi2 hi3 hi4 rfl (by omega)
    v xs.length (rbCells xs) (ownsRow_keeps h.own k0 (fun _ _ => id)) ⟨w.heap.size, 0, none⟩ 1 1 y.cells (RB.cells_length _)
    (fun j x hj => by
      rw [addr_add, Nat.zero_add]
      simp only [World.cell?, hnew]
      simpa using hj)
    (fun x hx => by
      simp only [RB.cells, List.mem_cons, List.not_mem_nil, or_false] at hx
      rcases hx with rfl | rfl | rfl <;> rfl) (by omega) (by unfold maxLen; omega) (by omega) (by omega) _ rfl
  have k2 : Keeps w w' (fun k => v.ownBlock = some k) := (k0.mono (fun _ _ x => x.elim)).trans (Keeps.ofGrown h3) (fun _ _ x => x)
  have hrv : ¬ v.ownBlock = some r := fun e => h.r_row e rfl
  have hb : w'.heap[r]? = some (.cells #[.int .i64 (lim : Int), .int .i64 (en : Int), v] 58) := (k2.block r (heap_lt h.hp) hrv).trans h.hp
  have hg2n : v.ownBlock = some g2 ∨ w.heap.size ≤ g2 := h4.imp id (fun e => by rw [e, hsz]; omega)
  have h5 : w'.ownsRow 0 74 3 (.slice (some ⟨g2, 0, none⟩) (xs.length + 1) c2) (xs ++ [y]).length (rbCells (xs ++ [y])) := by
    rw [rbCells_append, rbCells_one]
    simpa using h2
  have hrg : r ≠ g2 := fun e => by
    obtain ⟨_, cur, hc⟩ := ownsRow_block h5 (g := g2) rfl
    rw [← e, hb] at hc
    simp at hc
  have hry : r ≠ y.g := ne_of_obj h.hp hy (by simp)
  have hy' : w'.heap[y.g]? = some (.cells (rowOf (y.bs ++ y.sp)) 5 y.fz) := (k2.block _ (heap_lt hy) (fun e => by
    obtain ⟨cur, hc⟩ := h.row_obj e
    rw [hy] at hc
    simp at hc)).trans hy
  have core : ∀ (W : World) (e2 : Nat), Keeps w' W (fun k => k = r) → W.heap[r]? = some (.cells #[.int .i64 (lim : Int), .int .i64 (e2 : Int), .slice (some ⟨g2, 0, none⟩) (xs.length + 1) c2] 58) → RAt W r lim e2 (.slice (some ⟨g2, 0, none⟩) (xs.length + 1) c2) (xs ++ [y]) := fun W e2 k3 hW => by
    refine ⟨hW, ownsRow_keeps h5 k3 (fun g hg e => hrg ?_), fun j hj => ?_, fun j l hj hl e => ?_, fun j hj => ?_⟩
    · simp [Value.ownBlock] at hg
      omega
    · by_cases hj' : j < xs.length
      · rw [List.getElem_append_left hj']
        refine (k3.block _ (Nat.lt_of_lt_of_le (heap_lt (h.bytes j hj')) k2.size) (fun e => h.r_byte hj' e.symm)).trans ?_
        exact (k2.block _ (heap_lt (h.bytes j hj')) (fun e => h.row_byte e hj' rfl)).trans (h.bytes j hj')
      · have e : j = xs.length := by simp at hj; omega
        subst e
        have e1 : (xs ++ [y])[xs.length]'hj = y := by simp
        rw [e1]
        exact (k3.block _ (heap_lt hy') (fun e => hry e.symm)).trans hy'
    · have hgt : ∀ m (hm : m < (xs ++ [y]).length), (∃ hm' : m < xs.length, (xs ++ [y])[m].g = xs[m].g) ∨ (m = xs.length ∧ (xs ++ [y])[m].g = y.g) := fun m hm => by
        by_cases hm' : m < xs.length
        · exact Or.inl ⟨hm', by rw [List.getElem_append_left hm']⟩
        · have e : m = xs.length := by simp at hm; omega
          subst e
          exact Or.inr ⟨rfl, by simp⟩
      rcases hgt j hj with ⟨hj', e1⟩ | ⟨hj', e1⟩ <;> rcases hgt l hl with ⟨hl', e2⟩ | ⟨hl', e2⟩
      · exact h.apart j l hj' hl' (e1.symm.trans (e.trans e2))
      · exact absurd (e1.symm.trans (e.trans e2)) (hnb j hj')
      · exact absurd (e2.symm.trans (e.symm.trans e1)) (hnb l hl')
      · omega
    · by_cases hj' : j < xs.length
      · rw [List.getElem_append_left hj']
        exact h.thaw j hj'
      · have e : j = xs.length := by simp at hj; omega
        subst e
        have e1 : (xs ++ [y])[xs.length]'hj = y := by simp
        rw [e1]
        exact hth
  have kA : Keeps w (w'.setCell ⟨r, 2, none⟩ (.slice (some ⟨g2, 0, none⟩) (xs.length + 1) c2)) (fun k => k = r ∨ v.ownBlock = some k) := Keeps.setCell (S := fun k => k = r ∨ v.ownBlock = some k) (k2.mono (fun _ _ x => Or.inr x)) ⟨r, 2, none⟩ (fun _ => Or.inl rfl) _
  refine ⟨w', g2, c2, fun ty => hr, by simp [World.cell?, hb], by simp [World.cell?, hb], by simp [World.cell?, hb], fun j => by simp [World.frozen?, hb], fun e2 => ?_, fun u => ?_, hg2n, ?_⟩
  · exact core _ e2 (Keeps.setCell (S := fun k => k = r) (Keeps.setCell (S := fun k => k = r) (Keeps.refl w' _) ⟨r, 2, none⟩ (fun _ => rfl) _) ⟨r, 1, none⟩ (fun _ => rfl) _) (rset1 (rset2 hb))
  · exact Keeps.setCell (S := fun k => k = r ∨ v.ownBlock = some k) kA ⟨r, 1, none⟩ (fun _ => Or.inl rfl) _
  · exact (show _ ∧ _ from ⟨core _ en (Keeps.setCell (S := fun k => k = r) (Keeps.refl w' _) ⟨r, 2, none⟩ (fun _ => rfl) _) (rset2 hb), kA⟩)

/-- One block more, of zeros. -/
theorem RAt.push {w : World} {r lim en : Nat} {v : Value} {xs : List RB} (h : RAt w r lim en v xs) (hn : xs.length ≤ 134217728) (c : Nat) :
    ∃ w' g2 c2, (∀ ty, (Builtin.append_ #[56, 56] ty #[v, .slice (some ⟨w.heap.size + 1, 0, none⟩) 1 1]).run Tryz.prog ((w.alloc (.cells (rowOf (zeros c)) 5)).alloc (.cells #[.int .i64 (en : Int), .bool true, .slice (some ⟨w.heap.size, 0, none⟩) c c] 74)) = .ok (.slice (some ⟨g2, 0, none⟩) (xs.length + 1) c2) w') ∧
      w'.cell? ⟨r, 0, none⟩ = some (.int .i64 (lim : Int)) ∧ w'.cell? ⟨r, 1, none⟩ = some (.int .i64 (en : Int)) ∧ w'.cell? ⟨r, 2, none⟩ = some v ∧ (∀ j, w'.frozen? ⟨r, j, none⟩ = false) ∧
      (∀ e2 : Nat, Hid (RAt ((w'.setCell ⟨r, 2, none⟩ (.slice (some ⟨g2, 0, none⟩) (xs.length + 1) c2)).setCell ⟨r, 1, none⟩ (.int .i64 (e2 : Int))) r lim e2 (.slice (some ⟨g2, 0, none⟩) (xs.length + 1) c2) (xs ++ [⟨en, true, w.heap.size, zeros c, [], (0, 0)⟩]))) ∧
      (∀ u, Hid (Keeps w ((w'.setCell ⟨r, 2, none⟩ (.slice (some ⟨g2, 0, none⟩) (xs.length + 1) c2)).setCell ⟨r, 1, none⟩ u) (fun k => k = r ∨ v.ownBlock = some k))) ∧ (v.ownBlock = some g2 ∨ w.heap.size ≤ g2) := by
  have k1 : Keeps w (w.alloc (.cells (rowOf (zeros c)) 5)) (fun _ => False) := (Keeps.refl _ _).alloc _
  obtain ⟨w', g2, c2, a1, a2, a3, a4, a5, a6, a7, a8, _⟩ := (h.stay k1).pushY hn ⟨en, true, w.heap.size, zeros c, [], (0, 0)⟩ (by rw [List.append_nil]; exact heap_alloc_new _ _) (Or.inl rfl) (fun j hj e => by
    have := heap_lt (h.bytes j hj)
    have e' : xs[j].g = w.heap.size := e
    omega)
  have e0 : (w.alloc (.cells (rowOf (zeros c)) 5)).heap.size = w.heap.size + 1 := by simp
  rw [e0] at a1 a8
  have e1 : (RB.cells ⟨en, true, w.heap.size, zeros c, [], (0, 0)⟩).toArray = #[.int .i64 (en : Int), .bool true, .slice (some ⟨w.heap.size, 0, none⟩) c c] := by simp [RB.cells, zeros_length]
  rw [e1] at a1
  exact ⟨w', g2, c2, a1, a2, a3, a4, a5, a6, fun u => (show Keeps _ _ _ from (k1.mono (fun _ _ e => e.elim)).trans (a7 u).out (fun _ _ e => e)), a8.imp id (fun e => by omega)⟩
end Go.Proofs.YtdlibnjgmdffnaaGreat
/-
  The document's arena: a block is taken.
-/
namespace Go.Proofs.YtdlibnjgmdffnaaGreat
open Go.RowKit Go.Shelf
set_option linter.unusedVariables false

theorem infoB5 : (Tryz.prog.info? 5).map (fun i => (i.zero, i.size, i.bytes)) = some (some (.int .u8 0), 1, 1) := by kernel_rfl
theorem RAt.drew {w : World} {r lim en : Nat} {v : Value} {xs : List RB} (h : RAt w r lim en v xs) : RAt w.drew r lim en v xs := h.stay (Keeps.refl _ _).drew

theorem RAt.rc {w : World} {r lim en n cap : Nat} {so : Option Addr} {xs : List RB} (h : RAt w r lim en (.slice so n cap) xs) : RCells w so xs := by
  obtain ⟨so', cap', e, _, hC⟩ := h.list
  injection e with e1 _ _
  subst e1
  exact hC
/-- The index of the free block that is taken. -/
def RFree (xs : List RB) (c k : Nat) : Prop := ∃ hk : k < xs.length, xs[k].live = false ∧ xs[k].bs.length = c ∧ ∀ j (hj : j < xs.length), j < k → ¬ (xs[j].live = false ∧ xs[j].bs.length = c)
def RTakePost (w : World) (r lim en : Nat) (v : Value) (xs : List RB) (c : Nat) (e : Ending) (w' : World) : Prop :=
  (∃ k, ∃ hk : k < xs.length, RFree xs c k ∧ e = .returned (.int .i64 (xs[k].off : Int)) ∧ ∃ b, w.heap.size ≤ b ∧ RAt w' r lim en v (xs.set k ⟨xs[k].off, true, b, zeros c, [], (0, 0)⟩) ∧ Keeps w w' (fun k => v.ownBlock = some k)) ∨
  ((∀ j (hj : j < xs.length), ¬ (xs[j].live = false ∧ xs[j].bs.length = c)) ∧ e = .returned (.int .i64 (en : Int)) ∧ ∃ b v', w.heap.size ≤ b ∧ RAt w' r lim (en + c) v' (xs ++ [⟨en, true, b, zeros c, [], (0, 0)⟩]) ∧ Keeps w w' (fun k => k = r ∨ v.ownBlock = some k) ∧ ∀ k, v'.ownBlock = some k → v.ownBlock = some k ∨ w.heap.size ≤ k)

set_option maxRecDepth 100000 in
set_option maxHeartbeats 4000000 in
theorem r2take_any {w : World} {r lim en : Nat} {v : Value} {xs : List RB} (h : RAt w r lim en v xs) (hn : xs.length ≤ 134217728) (c : Nat) (hc : en + c ≤ 134217728) :
    Calls Tryz.prog 75 #[.pointer (some ⟨r, 0, none⟩), .int .i64 (c : Int)] w fun e w' => RTakePost w r lim en v xs c e w' := by
  have c1 := h.cell1
  have c2 := h.cell2
  have H := hide h
  obtain ⟨so, cap, rfl, hcap, hC⟩ := h.list
  have HC := hide hC
  have hmk := fun W : World => run_make_bytes (P := Tryz.prog) W 72 5 Tryz.underlying72 infoB5 c (by omega)
  clear h hC
  go_enter Tryz.func75, Tryz.ntmps75
  go_wp2_with fail
  go_loopw [5] (fun i wr => ∃ k : Nat, k ≤ xs.length ∧ i = .int .i64 (k : Int) ∧ w = wr ∧ Hid (∀ j (hj : j < xs.length), j < k → ¬ (xs[j].live = false ∧ xs[j].bs.length = c))) (fun i _ => xs.length - (intOf i).toNat)
  case atStart => exact ⟨0, Nat.zero_le _, rfl, rfl, fun j _ hj => by omega⟩
  case round =>
    obtain ⟨k, hk, rfl, rfl, hno⟩ := hrel
    by_cases hlt : k < xs.length
    · obtain ⟨g, rfl, x0, x1, x2, hfz⟩ := HC.out k hlt
      have hlt' : (k : Int) < (xs.length : Int) := by omega
      clear HC
      have hnext : Hid (¬ (xs[k].live = false ∧ xs[k].bs.length = c) → ∀ j (hj : j < xs.length), j < k + 1 → ¬ (xs[j].live = false ∧ xs[j].bs.length = c)) := fun hne j hj hjk hh => by
        rcases Nat.lt_or_ge j k with h1 | h1
        · exact hno.out j hj h1 hh
        · obtain rfl : j = k := by omega
          exact hne hh
      by_cases hl : xs[k].live = false
      · by_cases ho : xs[k].bs.length = c
        · have hF : Hid (RFree xs c k) := (show RFree xs c k from ⟨hlt, hl, ho, hno.out⟩)
          have hq : ((xs[k].bs.length : Int) == (c : Int)) = true := beq_iff_eq.2 (by omega)
          have hq2 : (xs[k].bs.length == c) = true := by simpa using ho
          obtain ⟨S1, K1⟩ := H.out.setLive rfl hlt true
          rw [hl] at x1
          clear hnext hno
          go_wp2_with fail
          have hW1 : ∃ W1, W1 = w.setCell ⟨g, k * 3 + 1, none⟩ (.bool true) := ⟨_, rfl⟩
          obtain ⟨W1, hW1⟩ := hW1
          rw [← hW1] at S1 K1 ⊢
          have hsz1 : W1.heap.size = w.heap.size := by rw [hW1]; simp [World.setCell]
          clear hW1 x0 x1 x2 c1 c2 hfz
          have hk1 : k < (xs.set k ⟨xs[k].off, true, xs[k].g, xs[k].bs, xs[k].sp, xs[k].fz⟩).length := by simpa using hlt
          have hl1 : (xs.set k ⟨xs[k].off, true, xs[k].g, xs[k].bs, xs[k].sp, xs[k].fz⟩).length = xs.length := by simp
          have q1 := S1.cell2
          have kA : Keeps W1 (W1.alloc (.cells (rowOf (zeros c)) 5)) (fun _ => False) := (Keeps.refl _ _).alloc _
          have SA := S1.stay kA
          have qA := SA.cell2
          obtain ⟨g', hg', x0, x1, x2, hfz⟩ := SA.rc k hk1
          injection hg' with hg'
          injection hg' with hg'
          subst hg'
          rw [set_get, if_pos rfl] at x0 x1 x2
          simp only at x0 x1 x2
          have f2 := hfz (k * 3 + 2)
          obtain ⟨SB, KB⟩ := SA.setBytes (by rw [hl1]) hk1 (heap_alloc_new W1 (.cells (rowOf (zeros c)) 5)) (fun j hj e => by have := heap_lt (S1.bytes j hj); omega) (zeros_length c)
          rw [hsz1] at SB KB
          have z2 := SB.cell2
          obtain ⟨g', hg', z0, _⟩ := SB.rc k (by simpa using hlt)
          injection hg' with hg'
          injection hg' with hg'
          subst hg'
          rw [set_get, if_pos rfl, set_get, if_pos rfl] at z0
          simp only at z0
          have e2 : (xs.set k ⟨xs[k].off, true, xs[k].g, xs[k].bs, xs[k].sp, xs[k].fz⟩).set k ⟨((xs.set k ⟨xs[k].off, true, xs[k].g, xs[k].bs, xs[k].sp, xs[k].fz⟩)[k]'hk1).off, ((xs.set k ⟨xs[k].off, true, xs[k].g, xs[k].bs, xs[k].sp, xs[k].fz⟩)[k]'hk1).live, w.heap.size, zeros c, [], (0, 0)⟩ = xs.set k ⟨xs[k].off, true, w.heap.size, zeros c, [], (0, 0)⟩ := by
            rw [List.set_set, set_get, if_pos rfl]
          rw [e2] at SB
          have HS := hide SB
          have HK := hide ((K1.trans (kA.mono (S1 := fun i => i = g) (fun _ _ e => e.elim)) (fun i hi e => e)).trans KB (fun i hi e => e))
          clear SB KB K1 hl hfz SA kA S1 hq hq2
          go_region_law (fail)
          all_goals (try go_wp2_with fail)
          all_goals go_ret
          all_goals exact Or.inl ⟨k, hlt, hF.out, rfl, w.heap.size, Nat.le_refl _, HS.out.drew, (HK.out.mono (fun i _ e => by rw [e]; rfl)).drew⟩
        · have hN := hide (hnext.out (fun hh => ho hh.2))
          have hq : ((xs[k].bs.length : Int) == (c : Int)) = false := beq_eq_false_iff_ne.2 (by omega)
          have hq2 : (xs[k].bs.length == c) = false := beq_eq_false_iff_ne.2 ho
          rw [hl] at x1
          clear hl hnext hno
          generalize xs[k].bs.length = y at *
          go_wp2_with fail
          go_roundw
          case rel => exact ⟨k + 1, by omega, by go_num, by trivial, hN⟩
          case measure => simp [intOf]; omega
      · have hN := hide (hnext.out (fun hh => hl hh.1))
        have hl' : xs[k].live = true := by simpa using hl
        rw [hl'] at x1
        clear hl hl' hnext hno
        go_wp2_with fail
        go_roundw
        case rel => exact ⟨k + 1, by omega, by go_num, by trivial, hN⟩
        case measure => simp [intOf]; omega
    · obtain rfl : k = xs.length := by omega
      have hlt' : ¬ (xs.length : Int) < (xs.length : Int) := by omega
      clear HC
      have q2 : (w.alloc (.cells (rowOf (zeros c)) 5)).cell? ⟨r, 2, none⟩ = some (.slice so xs.length cap) := (H.out.stay ((Keeps.refl w (fun _ => False)).alloc (.cells (rowOf (zeros c)) 5))).cell2
      have q3 : ((w.alloc (.cells (rowOf (zeros c)) 5)).alloc (.cells #[.int .i64 (en : Int), .bool true, .slice (some ⟨w.heap.size, 0, none⟩) c c] 74)).cell? ⟨r, 2, none⟩ = some (.slice so xs.length cap) := (H.out.stay (((Keeps.refl w (fun _ => False)).alloc (.cells (rowOf (zeros c)) 5)).alloc (.cells #[.int .i64 (en : Int), .bool true, .slice (some ⟨w.heap.size, 0, none⟩) c c] 74))).cell2
      obtain ⟨w', g2, cap2, hap, z0, z1, z2, fz, hR, hK, hg2⟩ := H.out.drew.push hn c
      have f1 := fz 1
      have f2 := fz 2
      have HR := hide hR
      have HKK := hide hK
      have HG := hide hg2
      clear fz hR hK hg2
      go_wp2_with fail
      go_region_law (refine step_append_run (by rfl) _ _ 56 (by rfl) (by rfl) (by rfl) hap ?_)
      all_goals (try go_wp2_with fail)
      all_goals go_ret
      all_goals exact Or.inr ⟨fun j hj => hno.out j hj hj, rfl, w.heap.size, _, Nat.le_refl _, (by have q := (HR.out (en + c)).out; rw [show ((en + c : Nat) : Int) = (en : Int) + (c : Int) from by omega] at q; exact q), (by have q := (HKK.out (.int .i64 ((en : Int) + (c : Int)))).out; exact ⟨q.os, q.tape, q.output, q.size, q.block⟩), fun k hk => (by cases hk; exact HG.out)⟩
end Go.Proofs.YtdlibnjgmdffnaaGreat
