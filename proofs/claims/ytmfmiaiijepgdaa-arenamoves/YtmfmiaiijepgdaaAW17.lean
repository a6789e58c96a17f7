import Derived.Test.YtmfmiaiijepgdaaAW16
import Derived.Lib.Join
import Derived.Deep.RegionHeld
namespace Go.Proofs.Ytmfmiaiijepgdaa
open Go.RowKit Go.Shelf

/-- A list of texts behind an address. -/
def TextsAt (w : World) (a : Option Addr) (ts : List ByteArray) : Prop := ∀ j (h : j < ts.length), ∃ b o, a = some ⟨b, o, none⟩ ∧ b < w.heap.size ∧ w.cell? ⟨b, o + j, none⟩ = some (.string ts[j])
theorem TextsAt.two {w : World} {a : Option Addr} {ts : List ByteArray} (h : TextsAt w a ts) : ts = [] ∨ ∃ b o, a = some ⟨b, o, none⟩ ∧ b < w.heap.size ∧ 0 < ts.length ∧ ∀ j (h : j < ts.length), w.cell? ⟨b, o + j, none⟩ = some (.string ts[j]) := by
  cases ts with
  | nil => exact Or.inl rfl
  | cons z r =>
    obtain ⟨b, o, e, hb, _⟩ := h 0 (by simp)
    refine Or.inr ⟨b, o, e, hb, by simp, fun j hj => ?_⟩
    obtain ⟨b', o', e', _, hc⟩ := h j hj
    rw [e] at e'
    cases e'
    exact hc
theorem TextsAt.keeps {w w' : World} {a : Option Addr} {ts : List ByteArray} (h : TextsAt w a ts) (k : Keeps w w' (fun _ => False)) : TextsAt w' a ts := by
  intro j hj
  obtain ⟨b, o, e, hb, hc⟩ := h j hj
  exact ⟨b, o, e, Nat.lt_of_lt_of_le hb k.size, (World.cell?_of_block (w := w) (a := ⟨b, o + j, none⟩) (k.block b hb id)).trans hc⟩
def lens : List ByteArray → Nat
  | [] => 0
  | t :: r => t.size + lens r
theorem lens_append (a b : List ByteArray) : lens (a ++ b) = lens a + lens b := by
  induction a with
  | nil => simp [lens]
  | cons t r ih => simp [lens, ih]; omega
theorem lens_take_succ {ts : List ByteArray} {k : Nat} (hk : k < ts.length) : lens (ts.take (k + 1)) = lens (ts.take k) + ts[k].size := by
  rw [List.take_succ_eq_append_getElem hk, lens_append]
  simp [lens]
theorem lens_take_le (ts : List ByteArray) (k : Nat) : lens (ts.take k) ≤ lens ts := by
  have := lens_append (ts.take k) (ts.drop k)
  rw [List.take_append_drop] at this
  omega
/-- All of them, one behind the other. -/
def joined (ts : List ByteArray) : List UInt8 := Lib.join (ts.map (·.data.toList)) []
theorem joined_eq : ∀ ts : List ByteArray, joined ts = (ts.map (·.data.toList)).flatten
  | [] => rfl
  | [t] => by simp [joined, Lib.join, List.intercalate]
  | t :: s :: r => by
    have := joined_eq (s :: r)
    simp only [joined, Lib.join, List.map_cons] at this ⊢
    rw [List.intercalate_cons_cons, this]
    simp
theorem joined_length (ts : List ByteArray) : (joined ts).length = lens ts := by
  rw [joined_eq]
  induction ts with
  | nil => rfl
  | cons t r ih =>
    simp only [List.map_cons, List.flatten_cons, List.length_append, ih, lens]
    simp

def LenPost (w : World) (ts : List ByteArray) (e : Ending) (w' : World) : Prop := ∃ n : Nat, e = .returned (.int .i64 (n : Int)) ∧ w' = w ∧ (n = lens ts ∨ (1048576 < n ∧ 1048576 < lens ts)) ∧ n ≤ 1125899906842624
set_option maxHeartbeats 1000000 in
theorem length_nil (a : Option Addr) (cap : Nat) (w : World) : Calls Try.prog 37 #[.slice a 0 cap] w fun e w' => LenPost w [] e w' := by
  go_enter Try.func37, Try.ntmps37
  go_wp2_with fail
  go_loop [3, 8] (fun n i => n = .int .i64 0 ∧ i = .int .i64 0) (fun _ _ => 0)
  case atStart => exact ⟨rfl, rfl⟩
  case round =>
    obtain ⟨rfl, rfl⟩ := hrel
    go_wp2_with fail
    go_ret
    exact ⟨0, rfl, rfl, Or.inl rfl, by omega⟩

set_option maxHeartbeats 1000000 in
theorem length_some (b o cap : Nat) (ts : List ByteArray) (w : World) (hbig : ts.length ≤ 140737488355328) (hsz : ∀ t ∈ ts, t.size ≤ 140737488355328) (hc : ∀ j (h : j < ts.length), w.cell? ⟨b, o + j, none⟩ = some (.string ts[j])) :
    Calls Try.prog 37 #[.slice (some ⟨b, o, none⟩) ts.length cap] w fun e w' => LenPost w ts e w' := by
  go_enter Try.func37, Try.ntmps37
  go_wp2_with fail
  go_loop [3, 8] (fun n i => ∃ k : Nat, i = .int .i64 (k : Int) ∧ n = .int .i64 ((lens (ts.take k) : Nat) : Int) ∧ k ≤ ts.length ∧ lens (ts.take k) ≤ 1048576) (fun _ i => ts.length - (intOf i).toNat)
  case atStart => exact ⟨0, rfl, rfl, Nat.zero_le _, by simp [lens]⟩
  case round =>
    obtain ⟨k, rfl, rfl, hk, hl⟩ := hrel
    by_cases hlt : k < ts.length
    · have hlt' : (k : Int) < (ts.length : Int) := by omega
      have hck := hc k hlt
      have hst := lens_take_succ hlt
      have hs := hsz _ (List.getElem_mem hlt)
      have hle := lens_take_le ts (k + 1)
      generalize ts[k]'hlt = t at *
      generalize lens (ts.take k) = N at *
      have HST := hide hst
      have HLE := hide hle
      clear hc hsz hst hle
      by_cases hbig1 : 1048576 < N + t.size
      · have hb' : (1048576 : Int) < (N : Int) + (t.size : Int) := by omega
        go_wp2_with fail
        go_ret
        exact ⟨N + t.size, by simp, rfl, Or.inr ⟨hbig1, by have := HST.out; have := HLE.out; omega⟩, by omega⟩
      · have hb' : ¬ (1048576 : Int) < (N : Int) + (t.size : Int) := by omega
        go_wp2_with fail
        go_round
        case rel => exact ⟨k + 1, by go_num, by rw [HST.out]; simp, by omega, by rw [HST.out]; omega⟩
        case measure => simp [intOf]; omega
    · have hlt' : ¬ (k : Int) < (ts.length : Int) := by omega
      have hall : ts.take k = ts := List.take_of_length_le (by omega)
      rw [hall] at hl ⊢
      generalize hN : lens ts = N at *
      clear hc
      go_wp2_with fail
      go_ret
      exact ⟨N, rfl, rfl, Or.inl hN.symm, by omega⟩

theorem length_any {w : World} (a : Option Addr) (cap : Nat) (ts : List ByteArray) (hbig : ts.length ≤ 140737488355328) (hsz : ∀ t ∈ ts, t.size ≤ 140737488355328) (h : TextsAt w a ts) :
    Calls Try.prog 37 #[.slice a ts.length cap] w fun e w' => LenPost w ts e w' := by
  rcases h.two with rfl | ⟨b, o, rfl, _, _, hc⟩
  · exact length_nil a cap w
  · exact length_some b o cap ts w hbig hsz hc

/-- What the library's Join does. -/
def JoinOK : Prop := ∀ (a : Option Addr) (c : Nat) (ts : List ByteArray) (w : World), TextsAt w a ts → ts.length ≤ c → ts.length ≤ 140737488355328 → lens ts ≤ 1048576 →
  Calls Try.prog 39 #[.slice a ts.length c, .string ByteArray.empty] w fun e w' => e = .returned (.string (strOf (joined ts))) ∧ Keeps w w' (fun _ => False)

def writeR (d : AD) (off : Int) (ts : List ByteArray) : Int × AD := if d.goodB off (lens ts : Nat) && decide (lens ts ≤ 1048576) then (0, d.bytes (splice d.bs off.toNat (joined ts))) else (24, d)
/-- No block is greater than 1048576. -/
def AD.small (d : AD) : Prop := ∀ x ∈ d.L, x.2 ≤ 1048576
theorem AD.small_good {d : AD} (h : d.small) {off n : Int} (hn : 1048576 < n) : d.goodB off n = false := by
  cases hg : d.goodB off n
  · rfl
  · obtain ⟨x, hx, _, h0, h1, h2⟩ := AD.goodB_true hg
    have := h x hx
    omega

set_option maxHeartbeats 2000000 in
set_option maxRecDepth 100000 in
theorem awrite_any (hJ : JoinOK) {w : World} {p : Nat} {F : Nat → Prop} {d : AD} (hA : Arena w p F d) (hF : d.Fine) (hS : d.small) (off : Int) (a : Option Addr) (cap : Nat) (ts : List ByteArray) (ho : fitsI off) (hbig : ts.length ≤ 140737488355328) (hcap : ts.length ≤ cap) (hsz : ∀ t ∈ ts, t.size ≤ 140737488355328) (ht : TextsAt w a ts) :
    Calls Try.prog 18 #[.pointer (some ⟨p, 0, none⟩), .int .i64 off, .slice a ts.length cap] w fun e w' => ErrPost w p F (writeR d off ts).1 (writeR d off ts).2 e w' := by
  obtain ⟨c, h, hfo⟩ := hA.at
  have hl := length_any a cap ts hbig hsz ht
  have hg := fun (n : Nat) (hn : n ≤ 1125899906842624) => good_any h hF off (n : Int) ho (fitsI_mk (by omega) (by omega))
  unfold writeR
  cases hw : d.goodB off (lens ts : Nat) && decide (lens ts ≤ 1048576)
  · simp only [Bool.false_eq_true, if_false]
    have hno : ∀ n : Nat, (n = lens ts ∨ (1048576 < n ∧ 1048576 < lens ts)) → d.goodB off (n : Int) = false := by
      intro n hn
      rcases hn with rfl | ⟨hn, _⟩
      · by_cases h1 : lens ts ≤ 1048576
        · rw [decide_eq_true h1, Bool.and_true] at hw
          exact hw
        · exact AD.small_good hS (by omega)
      · exact AD.small_good hS (by omega)
    clear hw h hF hS
    go_enter Try.func18, Try.ntmps18
    go_wp2_with fail
    refine hl.mono ?_
    rintro e w1 ⟨n, rfl, rfl, hn, hnb⟩
    replace hg := hg n hnb
    rw [hno n hn] at hg
    clear hl hno hn
    go_wp2_with fail
    refine hg.mono ?_
    rintro e w2 ⟨rfl, k2⟩
    have T1 := hide (hA.same k2)
    clear hg k2 hA
    go_wp2_with fail
    go_ret
    exact ⟨rfl, T1.out⟩
  · simp only [if_true]
    rw [Bool.and_eq_true, decide_eq_true_eq] at hw
    obtain ⟨hw1, hw2⟩ := hw
    obtain ⟨o, k, rfl, hk, _, hok⟩ := hF.span hw1
    have hlk : lens ts = k := by omega
    subst hlk
    rw [Int.toNat_natCast]
    have hjl := joined_length ts
    go_enter Try.func18, Try.ntmps18
    go_wp2_with fail
    refine hl.mono ?_
    rintro e w1 ⟨n, rfl, rfl, hn, hnb⟩
    obtain rfl : n = lens ts := by
      rcases hn with e | ⟨_, e⟩
      · exact e
      · omega
    replace hg := hg (lens ts) hnb
    rw [hw1] at hg
    clear hl hn
    go_wp2_with fail
    refine hg.mono ?_
    rintro e w2 ⟨rfl, k2⟩
    have hjn := fun W (kW : Keeps w1 W (fun _ => False)) => hJ a cap ts W (ht.keeps kW) hcap hbig hw2
    have hcell := fun W (kW : Keeps w1 W (fun _ => False)) => (h.keeps kW (fun _ _ e => e)).cell2
    have hcell2 : ∀ W, Keeps w1 W (fun i => i = c.g) → W.cell? ⟨p, 2, none⟩ = some (.pointer (some ⟨c.b, 0, none⟩)) := fun W kW => (World.cell?_of_block (w := w1) (a := ⟨p, 2, none⟩) (kW.block p (heap_lt h.hp) h.p_g)).trans h.cell2
    have hwr : ∀ W V (hh n c' : Nat) (y : List UInt8) (fz : Nat × Nat), Keeps w1 W (fun _ => False) → w1.heap.size ≤ hh → W.heap[hh]? = some (.cells (rowOf (joined ts ++ y)) 5 fz) → n = (joined ts).length → V = W.heap.size →
        Calls Try.prog 38 #[.pointer (some ⟨c.b, 0, none⟩), .int .i64 (o : Int), .slice (some ⟨V, 0, none⟩) 1 1] (W.alloc (.cells #[.slice (some ⟨hh, 0, none⟩) n c'] 91)) fun e w' => WritePost (W.alloc (.cells #[.slice (some ⟨hh, 0, none⟩) n c'] 91)) c.b c.g (splice d.bs o (joined ts)) c.sp e w' :=
      fun W V hh n c' y fz kW hhh hr hn hV => write_one_yes (h.mem.keeps kW id id) hr (by have := heap_lt h.mem.hg; omega) hn (by omega) hV (by omega)
    have hend : ∀ W w5 e, Keeps w1 W (fun _ => False) → WritePost W c.b c.g (splice d.bs o (joined ts)) c.sp e w5 → Turned w1 w5 p F (d.bytes (splice d.bs o (joined ts))) := fun W w5 e kW hp => turned_wrote h hfo kW hp
    obtain ⟨S, hSe⟩ : ∃ S, strOf (joined ts) = S := ⟨_, rfl⟩
    have hjz : S.size = (joined ts).length := by rw [← hSe]; simp [strOf, ByteArray.size]
    have hjd : S.data.toList = joined ts := by rw [← hSe]; simp [strOf]
    rw [hSe] at hjn
    have HJZ := hide hjz
    have HJD := hide hjd
    clear hSe hjz hjd hS
    have k2d : Keeps w1 w2.drew (fun _ => False) := k2.drew
    clear hg h hA hJ hF ht hfo
    go_wp2_with fail
    go_region_held (fun w' => w'.cell? ⟨p, 2, none⟩ = some (.pointer (some ⟨c.b, 0, none⟩))) (first | exact hcell _ k2d | exact hcell _ k3 | exact hcell _ k4 | exact hcell _ k5 | exact hcell2 _ k6)
      (first
        | (go_at_call 39; refine (hjn _ k2d).mono ?_; rintro e w3 ⟨rfl, k3'⟩; have k3 := k2d.trans k3' (fun _ _ e => e); obtain ⟨w4, c4, fz, hconv, k4', hs4, hr4⟩ := bytes_of (P := Try.prog) w3 9 91 5 S Try.underlying9 Try.underlying91 Try.underlying5; have k4 := k3.trans k4' (fun _ _ e => e); have k5 : Keeps w1 (w4.alloc (.cells #[.slice (some ⟨w3.heap.size, 0, none⟩) S.size c4] 91)) (fun _ => False) := k4.alloc _)
        | (go_at_call 38; refine (hwr w4 _ w3.heap.size _ c4 _ fz k4 k3.size (by rw [HJD.out] at hr4; exact hr4) HJZ.out hs4.symm).mono ?_; intro e w5 hp5; have T1 := hide (hend _ _ _ k5 hp5); have k6 : Keeps w1 w5 (fun i => i = c.g) := (k5.mono (fun _ _ e => e.elim)).trans hp5.2.2 (fun _ _ e => e); obtain ⟨rfl, _, _⟩ := hp5))
    all_goals go_wp2_with fail
    all_goals go_ret
    all_goals exact ⟨rfl, T1.out⟩
end Go.Proofs.Ytmfmiaiijepgdaa
