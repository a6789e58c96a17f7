import Derived.Deep.RegionHeld3
import Derived.Test.YtdlibnjgmdffnaaGreatFn10
/-
  The document's arena: bytes.
-/
namespace Go.Proofs.YtdlibnjgmdffnaaGreat
open Go.RowKit Go.Shelf
set_option linter.unusedVariables false

/-- What span tells. -/
def SpanAns (w : World) (d : AD) (xs : List RB) (off n : Int) (e : Ending) (w' : World) : Prop :=
  Keeps w w' (fun _ => False) ∧ ((∃ k a m : Nat, ∃ hk : k < xs.length, e = .returned (.tuple #[.int .i64 (k : Int), .int .i64 (a : Int)]) ∧ d.goodB off n = true ∧ xs[k].live = true ∧ off = ((xs[k].off + a : Nat) : Int) ∧ n = (m : Int) ∧ a + m ≤ xs[k].bs.length) ∨ (e = .returned (.tuple #[.int .i64 (-1), .int .i64 0]) ∧ d.goodB off n = false))
theorem ref_span {w : World} {r : Nat} {d : AD} {v : Value} {xs : List RB} (h : RAt w r d.limit d.bs.length v xs) (s : Sim d xs) (hF : d.Fine) (off n : Int) (hn : fitsI n) :
    Calls Tryz.prog 58 #[.pointer (some ⟨r, 0, none⟩), .int .i64 off, .int .i64 n] w fun e w' => SpanAns w d xs off n e w' := by
  refine (r2span_any h (s.few hF) hF.most (fun k hk => by have := s.bound hF hk; omega) off n hn).mono ?_
  intro e w' hp
  rcases hp with ⟨k1, ⟨k, hk, rfl, hh⟩ | ⟨rfl, hno⟩⟩
  · obtain ⟨h1, h2, h3, h4⟩ := id hh
    refine ⟨k1, Or.inl ⟨k, (off - (xs[k].off : Int)).toNat, n.toNat, hk, ?_, s.good hF hk hh, h1, by omega, by omega, by omega⟩⟩
    rw [show ((off - (xs[k].off : Int)).toNat : Int) = off - (xs[k].off : Int) by omega]
  · exact ⟨k1, Or.inr ⟨rfl, s.bad hF hno⟩⟩

theorem put_set {bs y : List UInt8} {a i : Nat} (h : a + y.length ≤ bs.length) (hi : i < y.length) : (splice bs a (y.take i)).set (a + i) y[i] = splice bs a (y.take (i + 1)) := by
  have hl : (y.take i).length = i := by rw [List.length_take]; omega
  have hl2 : (y.take (i + 1)).length = i + 1 := by rw [List.length_take]; omega
  refine List.ext_getElem? fun j => ?_
  rw [List.getElem?_set, splice_get (by omega), splice_get (by omega), splice_length (by omega), hl, hl2]
  by_cases h1 : a + i = j
  · subst h1
    rw [if_pos rfl, if_pos (by omega), if_pos (by omega), List.getElem?_take, if_pos (by omega), Nat.add_sub_cancel_left, List.getElem?_eq_getElem hi]
  · rw [if_neg h1]
    by_cases h2 : a ≤ j ∧ j < a + i
    · rw [if_pos h2, if_pos (by omega), List.getElem?_take, List.getElem?_take, if_pos (by omega), if_pos (by omega)]
    · rw [if_neg h2, if_neg (by omega)]
theorem put_self (xs : List RB) {k : Nat} (hk : k < xs.length) : xs.set k (xs[k].put xs[k].bs) = xs := list_set_same (by rw [List.getElem?_eq_getElem hk]; rfl)

/-- Bytes y are being written into block k, from place a on: the first i of them. -/
def PutTo (w wr : World) (r lim en : Nat) (v : Value) (xs : List RB) (k : Nat) (hk : k < xs.length) (a : Nat) (y : List UInt8) (i : Nat) : Prop :=
  RAt wr r lim en v (xs.set k (xs[k].put (splice xs[k].bs a (y.take i)))) ∧ Keeps w wr (fun b => b = xs[k].g)
section
variable {w wr : World} {r lim en : Nat} {v : Value} {xs : List RB} {k : Nat} {hk : k < xs.length} {a : Nat} {y : List UInt8} {i : Nat}
theorem PutTo.start (h : RAt w r lim en v xs) (hk : k < xs.length) (a : Nat) (y : List UInt8) : PutTo w w r lim en v xs k hk a y 0 := by
  refine ⟨?_, Keeps.refl _ _⟩
  rw [List.take_zero, splice_nil, put_self]
  exact h
theorem PutTo.drew (h : PutTo w wr r lim en v xs k hk a y i) : PutTo w wr.drew r lim en v xs k hk a y i := ⟨h.1.drew, h.2.drew⟩
theorem PutTo.step (h : PutTo w wr r lim en v xs k hk a y i) (hy : a + y.length ≤ xs[k].bs.length) (hi : i < y.length) : PutTo w (wr.setCell ⟨xs[k].g, a + i, none⟩ (.int .u8 (y[i].toNat : Int))) r lim en v xs k hk a y (i + 1) := by
  have hk' : k < (xs.set k (xs[k].put (splice xs[k].bs a (y.take i)))).length := by simpa using hk
  have e : (xs.set k (xs[k].put (splice xs[k].bs a (y.take i))))[k] = xs[k].put (splice xs[k].bs a (y.take i)) := by rw [set_get, if_pos rfl]
  have hpl : a + i < (xs.set k (xs[k].put (splice xs[k].bs a (y.take i))))[k].bs.length := by
    rw [e]
    simp only [RB.put]
    rw [splice_length (by rw [List.length_take]; omega)]
    omega
  obtain ⟨h1, h2⟩ := h.1.setByte hk' (a + i) hpl y[i]
  rw [e] at h1 h2
  refine ⟨?_, h.2.trans h2 (fun _ _ e => e)⟩
  rw [List.set_set] at h1
  have e2 : (xs[k].put (splice xs[k].bs a (y.take i))).put ((xs[k].put (splice xs[k].bs a (y.take i))).bs.set (a + i) y[i]) = xs[k].put (splice xs[k].bs a (y.take (i + 1))) := by
    simp only [RB.put]
    rw [put_set hy hi]
  rw [e2] at h1
  exact h1
/-- The cells that the next write meets. -/
theorem PutTo.cells {n cap : Nat} {so : Option Addr} (h : PutTo w wr r lim en (.slice so n cap) xs k hk a y i) (hy : a + y.length ≤ xs[k].bs.length) (hi : i < y.length) : ∃ g, so = some ⟨g, 0, none⟩ ∧ wr.cell? ⟨r, 2, none⟩ = some (.slice so n cap) ∧ wr.cell? ⟨g, k * 3 + 2, none⟩ = some (.slice (some ⟨xs[k].g, 0, none⟩) xs[k].bs.length (xs[k].bs.length + xs[k].sp.length)) ∧ (∃ u, wr.cell? ⟨xs[k].g, a + i, none⟩ = some u) ∧ wr.frozen? ⟨xs[k].g, a + i, none⟩ = false := by
  have hk' : k < (xs.set k (xs[k].put (splice xs[k].bs a (y.take i)))).length := by simpa using hk
  have hl : (splice xs[k].bs a (y.take i)).length = xs[k].bs.length := splice_length (by rw [List.length_take]; omega)
  have e : (xs.set k (xs[k].put (splice xs[k].bs a (y.take i))))[k] = xs[k].put (splice xs[k].bs a (y.take i)) := by rw [set_get, if_pos rfl]
  obtain ⟨g, hg, _, _, x2, _⟩ := h.1.rc k hk'
  rw [e] at x2
  simp only [RB.put, hl] at x2
  have hb := h.1.gcell hk' (a + i) (by rw [e]; simp only [RB.put, hl]; omega)
  have hf := h.1.gfrozen hk' (a + i) (by rw [e]; simp only [RB.put, hl]; omega)
  have eg : (xs.set k (xs[k].put (splice xs[k].bs a (y.take i))))[k].g = xs[k].g := by rw [e]; rfl
  rw [eg] at hb hf
  exact ⟨g, hg, h.1.cell2, x2, ⟨_, hb⟩, hf⟩
end
/-- .. and when all are written. -/
theorem put_done {w wr : World} {r : Nat} {F : Nat → Prop} {d : AD} {v : Value} {xs : List RB} {k : Nat} {hk : k < xs.length} {a : Nat} {y : List UInt8} (h : PutTo w wr r d.limit d.bs.length v xs k hk a y y.length) (s : Sim d xs) (hF : d.Fine) (hfo : ∀ k, RFoot r v xs k → F k) (hl : xs[k].live = true) (hy : a + y.length ≤ xs[k].bs.length) : RTurned w wr r F (d.bytes (splice d.bs (xs[k].off + a) y)) := by
  have hb := s.bound hF hk
  have h1 := h.1
  rw [List.take_length] at h1
  refine ⟨⟨v, _, ?_, s.wrote hF hk hl hy, fun i hi => Or.inl ?_⟩, h.2.mono (fun i _ e => by rw [e]; exact hfo _ (Or.inr (Or.inr ⟨k, hk, rfl⟩)))⟩
  · have e : (d.bytes (splice d.bs (xs[k].off + a) y)).bs.length = d.bs.length := splice_length (by omega)
    rw [e]
    exact h1
  · rcases hi with rfl | hi | ⟨j, hj, rfl⟩
    · exact hfo _ (Or.inl rfl)
    · exact hfo _ (Or.inr (Or.inl hi))
    · have hj' : j < xs.length := by simpa using hj
      rw [set_get]
      split
      · exact hfo _ (Or.inr (Or.inr ⟨k, hk, rfl⟩))
      · exact hfo _ (Or.inr (Or.inr ⟨j, hj', rfl⟩))
theorem RTurned.none {w w' : World} {r : Nat} {F : Nat → Prop} {d : AD} (h : Ref w r F d) (k : Keeps w w' (fun _ => False)) : RTurned w w' r F d := ⟨(h.stay k).mono (fun i _ e => Or.inl e), k.mono (fun _ _ e => e.elim)⟩
def RErrPost (w : World) (r : Nat) (F : Nat → Prop) (x : Int) (d' : AD) (e : Ending) (w' : World) : Prop := e = .returned (.int .i64 x) ∧ RTurned w w' r F d'

set_option maxRecDepth 100000 in
set_option maxHeartbeats 4000000 in
theorem ref_fill {w : World} {r : Nat} {F : Nat → Prop} {d : AD} (h : Ref w r F d) (hFl : ∀ k, F k → k < w.heap.size) (hF : d.Fine) (off n : Int) (u : UInt8) (hn : fitsI n) :
    Calls Tryz.prog 51 #[.pointer (some ⟨r, 0, none⟩), .int .i64 off, .int .i64 n, .int .u8 (u.toNat : Int)] w fun e w' => RErrPost w r F (fillR d off n u).1 (fillR d off n u).2 e w' := by
  have HH := hide h
  obtain ⟨v, xs, h1, s, hfo⟩ := h
  have hsp := ref_span h1 s hF off n hn
  have hmost := hF.most
  have hbd := fun k (hk : k < xs.length) => s.bound hF hk
  have HBD := hide hbd
  have HS := hide s
  have HF := hide hF
  have H1 := hide h1
  have HFO := hide hfo
  clear h1 s hF hfo hbd
  go_enter Tryz.func51, Tryz.ntmps51
  go_wp2_with fail
  refine hsp.mono ?_
  intro e w1 hp
  clear hsp
  rcases hp with ⟨k1, ⟨k, a, m, hk, rfl, hg, hl, hoff, rfl, ham⟩ | ⟨rfl, hg⟩⟩
  · have hfin : Hid (∀ wr, PutTo w1 wr r d.limit d.bs.length v xs k hk a (same m u) m → RErrPost w r F (fillR d off (m : Int) u).1 (fillR d off (m : Int) u).2 (.returned (.int .i64 0)) wr) := fun wr hP => by
      have q := put_done (y := same m u) (by rw [same_length]; exact hP) HS.out HF.out HFO.out hl (by rw [same_length]; exact ham)
      unfold fillR
      rw [if_pos hg]
      refine ⟨rfl, ?_⟩
      rw [hoff]
      simp only [Int.toNat_natCast]
      exact ⟨q.1.mono (fun i _ e => e.imp id (fun e => by have := k1.size; omega)), (k1.mono (fun _ _ e => e.elim)).trans q.2 (fun _ _ e => e)⟩
    have hP0 := hide (PutTo.start (H1.out.stay k1) hk a (same m u))
    obtain ⟨so, cap, rfl, _⟩ := (H1.out.stay k1).list
    have hk0 : ¬ (k : Int) < 0 := by omega
    have hkl : (k : Int) < (xs.length : Int) := by omega
    have hb := HBD.out k hk
    clear hg hoff hl HH H1 HFO HS HF HBD
    go_wp2_with fail
    go_loopw [11] (fun i wr => ∃ j : Nat, j ≤ m ∧ i = .int .i64 (j : Int) ∧ Hid (PutTo w1 wr r d.limit d.bs.length (.slice so xs.length cap) xs k hk a (same m u) j)) (fun i _ => m - (intOf i).toNat)
    case atStart => exact ⟨0, Nat.zero_le _, rfl, hP0⟩
    case round =>
      clear hP0
      obtain ⟨j, hj, rfl, hP⟩ := hrel
      by_cases hlt : j < m
      · have hlt' : (j : Int) < (m : Int) := by omega
        obtain ⟨g, rfl, y2, x2, ⟨ub, xb⟩, fb⟩ := hP.out.cells (by rw [same_length]; exact ham) (by rw [same_length]; exact hlt)
        have hN := hide (hP.out.step (by rw [same_length]; exact ham) (by rw [same_length]; exact hlt))
        have hsu : (same m u)[j]'(by rw [same_length]; exact hlt) = u := by simp [same]
        rw [hsu] at hN
        clear hP hsu
        generalize xs[k].bs.length = L at *
        go_wp2_with fail
        go_roundw
        case rel => exact ⟨j + 1, by omega, by go_num, hN⟩
        case measure => simp [intOf]; omega
      · obtain rfl : j = m := by omega
        have hlt' : ¬ (j : Int) < (j : Int) := by omega
        have hF2 := hide (hfin.out wr hP.out)
        clear hP hfin
        go_wp2_with fail
        go_ret
        exact hF2.out
  · have hfin : Hid (RErrPost w r F (fillR d off n u).1 (fillR d off n u).2 (.returned (.int .i64 24)) w1) := by
      unfold fillR
      rw [if_neg (by rw [hg]; simp)]
      exact ⟨rfl, RTurned.none HH.out k1⟩
    clear hg
    go_wp2_with fail
    go_ret
    exact hfin.out
end Go.Proofs.YtdlibnjgmdffnaaGreat
/-
  The document's arena: Store, Load, Read.
-/
namespace Go.Proofs.YtdlibnjgmdffnaaGreat
open Go.RowKit Go.Shelf
set_option linter.unusedVariables false

theorem leBytes_get (v n j : Nat) (h : j < (leBytes v n).length) : (leBytes v n)[j] = lowB v j := by simp [leBytes]

set_option maxRecDepth 100000 in
set_option maxHeartbeats 4000000 in
theorem ref_store {w : World} {r : Nat} {F : Nat → Prop} {d : AD} (h : Ref w r F d) (hF : d.Fine) (off n : Int) (V : Nat) (hV : V < 18446744073709551616) (hn : fitsI n) :
    Calls Tryz.prog 49 #[.pointer (some ⟨r, 0, none⟩), .int .i64 off, .int .i64 n, .int .u64 (V : Int)] w fun e w' => RErrPost w r F (storeR d off n V).1 (storeR d off n V).2 e w' := by
  have HH := hide h
  obtain ⟨v, xs, h1, s, hfo⟩ := h
  have hsp := ref_span h1 s hF off n hn
  have hmost := hF.most
  have hbd := fun k (hk : k < xs.length) => s.bound hF hk
  have hwd := r2width_any w n
  have HBD := hide hbd
  have HS := hide s
  have HF := hide hF
  have H1 := hide h1
  have HFO := hide hfo
  clear h1 s hF hfo hbd
  cases hw : widthB n
  · have hfin : Hid (RErrPost w r F (storeR d off n V).1 (storeR d off n V).2 (.returned (.int .i64 10)) w) := by
      unfold storeR
      rw [hw]
      exact ⟨rfl, RTurned.none HH.out (Keeps.refl _ _)⟩
    rw [hw] at hwd
    clear hw hsp
    go_enter Tryz.func49, Tryz.ntmps49
    go_wp2_with fail
    refine hwd.mono ?_
    rintro e w1 ⟨rfl, hw1⟩
    subst hw1
    clear hwd
    go_wp2_with fail
    go_ret
    exact hfin.out
  have HW := hide hw
  rw [hw] at hwd
  clear hw
  go_enter Tryz.func49, Tryz.ntmps49
  go_wp2_with fail
  refine hwd.mono ?_
  rintro e w0 ⟨rfl, hw0⟩
  subst hw0
  clear hwd
  go_wp2_with fail
  refine hsp.mono ?_
  intro e w1 hp
  clear hsp
  rcases hp with ⟨k1, ⟨k, a, m, hk, rfl, hg, hl, hoff, rfl, ham⟩ | ⟨rfl, hg⟩⟩
  · have hm8 : m ≤ 8 := by have := widthB_true HW.out; omega
    have hfin : Hid (∀ wr, PutTo w1 wr r d.limit d.bs.length v xs k hk a (leBytes V m) m → RErrPost w0 r F (storeR d off (m : Int) V).1 (storeR d off (m : Int) V).2 (.returned (.int .i64 0)) wr) := fun wr hP => by
      have q := put_done (y := leBytes V m) (by rw [leBytes_length]; exact hP) HS.out HF.out HFO.out hl (by rw [leBytes_length]; exact ham)
      unfold storeR
      rw [HW.out, if_pos rfl, if_pos hg]
      refine ⟨rfl, ?_⟩
      rw [hoff]
      simp only [Int.toNat_natCast]
      exact ⟨q.1.mono (fun i _ e => e.imp id (fun e => by have := k1.size; omega)), (k1.mono (fun _ _ e => e.elim)).trans q.2 (fun _ _ e => e)⟩
    have hP0 := hide (PutTo.start (H1.out.stay k1) hk a (leBytes V m))
    obtain ⟨so, cap, rfl, _⟩ := (H1.out.stay k1).list
    have hk0 : ¬ (k : Int) < 0 := by omega
    have hkl : (k : Int) < (xs.length : Int) := by omega
    have hb := HBD.out k hk
    clear hg hoff hl HH H1 HFO HS HF HBD HW
    go_wp2_with fail
    go_loopw [3, 11] (fun v' i wr => ∃ j : Nat, j ≤ m ∧ i = .int .i64 (j : Int) ∧ v' = .int .u64 ((V / 256 ^ j : Nat) : Int) ∧ Hid (PutTo w1 wr r d.limit d.bs.length (.slice so xs.length cap) xs k hk a (leBytes V m) j)) (fun _ i _ => m - (intOf i).toNat)
    case atStart => exact ⟨0, Nat.zero_le _, rfl, by simp, hP0⟩
    case round =>
      clear hP0
      obtain ⟨j, hj, rfl, rfl, hP⟩ := hrel
      by_cases hlt : j < m
      · have hlt' : (j : Int) < (m : Int) := by omega
        have hjl : j < (leBytes V m).length := by rw [leBytes_length]; exact hlt
        obtain ⟨g, rfl, y2, x2, ⟨ub, xb⟩, fb⟩ := hP.out.cells (by rw [leBytes_length]; exact ham) hjl
        have hN := hide (hP.out.step (by rw [leBytes_length]; exact ham) hjl)
        rw [leBytes_get V m j hjl] at hN
        have hlow : ((V / 256 ^ j : Nat) : Int) % 256 = ((lowB V j).toNat : Int) := by rw [lowB_toNat]; omega
        have hdiv : Hid (((V / 256 ^ j : Nat) : Int) / 256 = ((V / 256 ^ (j + 1) : Nat) : Int)) := (show _ = _ by rw [Nat.pow_succ, ← Nat.div_div_eq_div_mul]; omega)
        have hbig : V / 256 ^ j < 18446744073709551616 := Nat.lt_of_le_of_lt (Nat.div_le_self _ _) hV
        have hlb : (lowB V j).toNat < 256 := (lowB V j).toNat_lt
        clear hP hV hjl
        generalize xs[k].bs.length = L at *
        generalize V / 256 ^ j = VV at *
        generalize (lowB V j).toNat = lo at *
        go_wp2_with fail
        go_roundw
        case rel => exact ⟨j + 1, by omega, by go_num, by rw [← hdiv.out], hN⟩
        case measure => simp [intOf]; omega
      · obtain rfl : j = m := by omega
        have hlt' : ¬ (j : Int) < (j : Int) := by omega
        have hF2 := hide (hfin.out wr hP.out)
        clear hP hfin hV
        generalize V / 256 ^ j = VV at *
        go_wp2_with fail
        go_ret
        exact hF2.out
  · have hfin : Hid (RErrPost w0 r F (storeR d off n V).1 (storeR d off n V).2 (.returned (.int .i64 24)) w1) := by
      unfold storeR
      rw [HW.out, if_pos rfl, if_neg (by rw [hg]; simp)]
      exact ⟨rfl, RTurned.none HH.out k1⟩
    clear hg
    go_wp2_with fail
    go_ret
    exact hfin.out

set_option maxRecDepth 100000 in
set_option maxHeartbeats 4000000 in
theorem ref_load {w : World} {r : Nat} {F : Nat → Prop} {d : AD} (h : Ref w r F d) (hF : d.Fine) (off n : Int) (hn : fitsI n) :
    Calls Tryz.prog 39 #[.pointer (some ⟨r, 0, none⟩), .int .i64 off, .int .i64 n] w fun e w' => LoadPost w (loadV d off n).1 (loadV d off n).2 e w' := by
  obtain ⟨v, xs, h1, s, hfo⟩ := h
  have hsp := ref_span h1 s hF off n hn
  have hmost := hF.most
  have hbd := fun k (hk : k < xs.length) => s.bound hF hk
  have hwd := r2width_any w n
  have HBD := hide hbd
  have HS := hide s
  have H1 := hide h1
  clear h1 s hF hfo hbd
  cases hw : widthB n
  · have hfin : Hid (LoadPost w (loadV d off n).1 (loadV d off n).2 (.returned (.tuple #[.int .u64 0, .int .i64 10])) w) := by
      unfold loadV
      rw [hw]
      exact ⟨rfl, Keeps.refl _ _⟩
    rw [hw] at hwd
    clear hw hsp
    go_enter Tryz.func39, Tryz.ntmps39
    go_wp2_with fail
    refine hwd.mono ?_
    rintro e w1 ⟨rfl, hw1⟩
    subst hw1
    clear hwd
    go_wp2_with fail
    go_ret2
    exact hfin.out
  have HW := hide hw
  rw [hw] at hwd
  clear hw
  go_enter Tryz.func39, Tryz.ntmps39
  go_wp2_with fail
  refine hwd.mono ?_
  rintro e w0 ⟨rfl, hw0⟩
  subst hw0
  clear hwd
  go_wp2_with fail
  refine hsp.mono ?_
  intro e w1 hp
  clear hsp
  rcases hp with ⟨k1, ⟨k, a, m, hk, rfl, hg, hl, hoff, rfl, ham⟩ | ⟨rfl, hg⟩⟩
  · have hm8 : m ≤ 8 := by have := widthB_true HW.out; omega
    have hm1 : 1 ≤ m := by have := widthB_true HW.out; omega
    have hfin : Hid (LoadPost w0 (loadV d off (m : Int)).1 (loadV d off (m : Int)).2 (.returned (.tuple #[.int .u64 (numOf ((xs[k].bs.drop a).take m) : Int), .int .i64 0])) w1) := by
      unfold loadV
      rw [HW.out, if_pos rfl, if_pos hg]
      refine ⟨?_, k1⟩
      rw [hoff, HS.out.span hk hl ham]
      rfl
    have R1 := H1.out.stay k1
    have y2 := R1.cell2
    obtain ⟨so, cap, rfl, _, hC⟩ := R1.list
    obtain ⟨g, rfl, _, _, x2, _⟩ := hC k hk
    have hby : Hid (∀ j (hj : j < xs[k].bs.length), w1.cell? ⟨xs[k].g, j, none⟩ = some (.int .u8 (xs[k].bs[j].toNat : Int))) := fun j hj => R1.gcell hk j hj
    have hk0 : ¬ (k : Int) < 0 := by omega
    have hk0' : (0 : Int) ≤ (k : Int) := by omega
    have hkl : (k : Int) < (xs.length : Int) := by omega
    have hb := HBD.out k hk
    clear hg hoff hl H1 HS HBD HW hC R1
    generalize xs[k].bs = bs at *
    go_wp2_with fail
    go_loopw [10, 11] (fun v i wr => ∃ q : Nat, q ≤ m ∧ i = .int .i64 ((q : Int) - 1) ∧ v = .int .u64 (numOf ((bs.drop (a + q)).take (m - q)) : Int) ∧ w1 = wr) (fun _ i _ => (intOf i + 1).toNat)
    case atStart => exact ⟨m, Nat.le_refl _, rfl, by rw [Nat.sub_self, List.take_zero]; rfl, rfl⟩
    case round =>
      obtain ⟨q, hq, rfl, rfl, rfl⟩ := hrel
      by_cases hq0 : q = 0
      · subst hq0
        clear hby
        rw [Nat.add_zero, Nat.sub_zero]
        generalize numOf ((bs.drop a).take m) = NN at *
        go_wp2
        go_ret2
        exact hfin.out
      · obtain ⟨q, rfl⟩ : ∃ q', q = q' + 1 := ⟨q - 1, by omega⟩
        have hbl : a + q < bs.length := by omega
        have xb := hby.out (a + q) hbl
        have e1 : (bs.drop (a + q)).take (m - q) = bs[a + q] :: (bs.drop (a + (q + 1))).take (m - (q + 1)) := by
          rw [List.drop_eq_getElem_cons hbl, show m - q = (m - (q + 1)) + 1 from by omega, List.take_succ_cons]
          rfl
        have hlt := numOf_lt ((bs.drop (a + (q + 1))).take (m - (q + 1)))
        have hl7 : ((bs.drop (a + (q + 1))).take (m - (q + 1))).length ≤ 7 := by simp; omega
        have hpow : 256 ^ ((bs.drop (a + (q + 1))).take (m - (q + 1))).length ≤ 256 ^ 7 := Nat.pow_le_pow_right (by omega) hl7
        have e2 : Hid (numOf ((bs.drop (a + q)).take (m - q)) = (bs[a + q]).toNat + 256 * numOf ((bs.drop (a + (q + 1))).take (m - (q + 1)))) := (show _ = _ by rw [e1]; rfl)
        have hx : (bs[a + q]).toNat < 256 := (bs[a + q]).toNat_lt
        generalize hN : numOf ((bs.drop (a + (q + 1))).take (m - (q + 1))) = N at *
        have hN2 : N < 72057594037927936 := by omega
        rw [show ((q + 1 : Nat) : Int) - 1 = (q : Int) from by omega]
        have hqq : (0 : Int) ≤ (q : Int) := by omega
        have hlL : ((a : Int) + (q : Int)) < (bs.length : Int) := by omega
        clear hlt hpow hl7 e1 hN hby hfin
        generalize (bs[a + q]).toNat = xx at *
        go_wp2_with fail
        go_roundw
        case rel => exact ⟨q, by omega, by go_num, by rw [e2.out]; go_num, by trivial⟩
        case measure => simp [intOf]
  · have hfin : Hid (LoadPost w0 (loadV d off n).1 (loadV d off n).2 (.returned (.tuple #[.int .u64 0, .int .i64 24])) w1) := by
      unfold loadV
      rw [HW.out, if_pos rfl, if_neg (by rw [hg]; simp)]
      exact ⟨rfl, k1⟩
    clear hg
    go_wp2_with fail
    go_ret2
    exact hfin.out
end Go.Proofs.YtdlibnjgmdffnaaGreat
/-
  The document's arena: Read, Copy, Equal, Write.
-/
namespace Go.Proofs.YtdlibnjgmdffnaaGreat
open Go.RowKit Go.Shelf
set_option linter.unusedVariables false

set_option maxRecDepth 100000 in
set_option maxHeartbeats 4000000 in
theorem ref_read {w : World} {r : Nat} {F : Nat → Prop} {d : AD} (h : Ref w r F d) (hF : d.Fine) (off n : Int) (hn : fitsI n) :
    Calls Tryz.prog 23 #[.pointer (some ⟨r, 0, none⟩), .int .i64 off, .int .i64 n] w fun e w' => ReadAPost w (readV d off n).1 (readV d off n).2 e w' := by
  obtain ⟨v, xs, h1, s, hfo⟩ := h
  have hsp := ref_span h1 s hF off n hn
  have hmost := hF.most
  have hbd := fun k (hk : k < xs.length) => s.bound hF hk
  have HBD := hide hbd
  have HS := hide s
  have H1 := hide h1
  clear h1 s hF hfo hbd
  go_enter Tryz.func23, Tryz.ntmps23
  go_wp2_with fail
  refine hsp.mono ?_
  intro e w1 hp
  clear hsp
  rcases hp with ⟨k1, ⟨k, a, m, hk, rfl, hg, hl, hoff, rfl, ham⟩ | ⟨rfl, hg⟩⟩
  · have hfin : Hid (ReadAPost w (readV d off (m : Int)).1 (readV d off (m : Int)).2 (.returned (.tuple #[.string (strOf ((xs[k].bs.drop a).take m)), .int .i64 0])) w1) := by
      unfold readV
      rw [if_pos hg]
      refine ⟨?_, k1⟩
      rw [hoff, HS.out.span hk hl ham]
      rfl
    have R1 := H1.out.stay k1
    have y2 := R1.cell2
    obtain ⟨so, cap, rfl, _, hC⟩ := R1.list
    obtain ⟨g, rfl, _, _, x2, _⟩ := hC k hk
    have hby : ∀ j (hj : j < xs[k].bs.length), w1.cell? ⟨xs[k].g, j, none⟩ = some (.int .u8 (xs[k].bs[j].toNat : Int)) := fun j hj => R1.gcell hk j hj
    have hk0 : ¬ (k : Int) < 0 := by omega
    have hk0' : (0 : Int) ≤ (k : Int) := by omega
    have hkl : (k : Int) < (xs.length : Int) := by omega
    have hb := HBD.out k hk
    have hsl := run_slice_span (P := Tryz.prog) w1 72 5 Tryz.underlying72 infoB5 xs[k].g xs[k].bs.length (xs[k].bs.length + xs[k].sp.length) a m (by omega)
    obtain ⟨q, hq, hsv⟩ := spanVal_eq xs[k].g (xs[k].bs.length + xs[k].sp.length) a m
    rw [hsv] at hsl
    have hcv := run_text w1 ⟨xs[k].g, q, none⟩ (xs[k].bs.length + xs[k].sp.length - a) m ((xs[k].bs.drop a).take m) (by simp; omega) (fun j hj => by
      have hj' : j < m := by simp at hj; omega
      have hqa : q = a := by
        rcases hq with e | ⟨_, e⟩
        · exact e
        · omega
      subst hqa
      rw [addr_add, hby (q + j) (by omega)]
      simp)
    clear hg hoff hl H1 HS HBD hC R1 hby hsv
    generalize strOf ((xs[k].bs.drop a).take m) = S at *
    generalize xs[k].bs.length = L at *
    generalize xs[k].sp.length = Lp at *
    generalize xs[k].g = gg at *
    go_wp2_with fail
    go_ret2
    exact hfin.out
  · have hfin : Hid (ReadAPost w (readV d off n).1 (readV d off n).2 (.returned (.tuple #[.string ByteArray.empty, .int .i64 24])) w1) := by
      unfold readV
      rw [if_neg (by rw [hg]; simp)]
      exact ⟨rfl, k1⟩
    clear hg
    go_wp2_with fail
    go_ret2
    exact hfin.out

set_option maxRecDepth 100000 in
set_option maxHeartbeats 4000000 in
theorem ref_lay {w : World} {r : Nat} {F : Nat → Prop} {d : AD} (h : Ref w r F d) (hF : d.Fine) (off : Int) (t : ByteArray) (hg0 : d.goodB off (t.size : Nat) = true) :
    Calls Tryz.prog 81 #[.pointer (some ⟨r, 0, none⟩), .int .i64 off, .string t] w fun e w' => e = .returned (.tuple #[]) ∧ RTurned w w' r F (d.bytes (splice d.bs off.toNat t.data.toList)) := by
  obtain ⟨v, xs, h1, s, hfo⟩ := h
  have hmost := hF.most
  have htm : t.size ≤ 134217728 := by
    obtain ⟨o, q, _, e2, _, e3⟩ := hF.span hg0
    omega
  have hsp := ref_span h1 s hF off (t.size : Nat) (fitsI_mk (by omega) (by omega))
  have hbd := fun k (hk : k < xs.length) => s.bound hF hk
  have HBD := hide hbd
  have HS := hide s
  have HF := hide hF
  have H1 := hide h1
  have HFO := hide hfo
  have HG0 := hide hg0
  clear h1 s hF hfo hbd hg0
  go_enter Tryz.func81, Tryz.ntmps81
  go_wp2_with fail
  refine hsp.mono ?_
  intro e w1 hp
  clear hsp
  rcases hp with ⟨k1, ⟨k, a, m, hk, rfl, hg, hl, hoff, hm, ham⟩ | ⟨rfl, hg⟩⟩
  · have hmt : t.size = m := by omega
    clear hm
    have htl : t.data.toList.length = m := by rw [← hmt]; simp
    have hfin : Hid (∀ wr, PutTo w1 wr r d.limit d.bs.length v xs k hk a t.data.toList m → RTurned w wr r F (d.bytes (splice d.bs off.toNat t.data.toList))) := fun wr hP => by
      have q := put_done (y := t.data.toList) (by rw [htl]; exact hP) HS.out HF.out HFO.out hl (by rw [htl]; exact ham)
      rw [hoff]
      simp only [Int.toNat_natCast]
      exact ⟨q.1.mono (fun i _ e => e.imp id (fun e => by have := k1.size; omega)), (k1.mono (fun _ _ e => e.elim)).trans q.2 (fun _ _ e => e)⟩
    have hP0 := hide (PutTo.start (H1.out.stay k1) hk a t.data.toList)
    obtain ⟨so, cap, rfl, _⟩ := (H1.out.stay k1).list
    have hk0 : ¬ (k : Int) < 0 := by omega
    have hk0' : (0 : Int) ≤ (k : Int) := by omega
    have hkl : (k : Int) < (xs.length : Int) := by omega
    have hb := HBD.out k hk
    have HTL := hide htl
    clear hg hoff hl H1 HFO HS HF HBD HG0 htl
    go_wp2_with fail
    go_loopw [8] (fun i wr => ∃ j : Nat, j ≤ m ∧ i = .int .i64 (j : Int) ∧ Hid (PutTo w1 wr r d.limit d.bs.length (.slice so xs.length cap) xs k hk a t.data.toList j)) (fun i _ => m - (intOf i).toNat)
    case atStart => exact ⟨0, Nat.zero_le _, rfl, hP0⟩
    case round =>
      clear hP0
      obtain ⟨j, hj, rfl, hP⟩ := hrel
      by_cases hlt : j < m
      · have hlt' : (j : Int) < (m : Int) := by omega
        have hts : j < t.size := by omega
        have hjl : j < t.data.toList.length := by rw [HTL.out]; exact hlt
        obtain ⟨g, rfl, y2, x2, ⟨ub, xb⟩, fb⟩ := hP.out.cells (by rw [HTL.out]; exact ham) hjl
        have hN := hide (hP.out.step (by rw [HTL.out]; exact ham) hjl)
        rw [byte_get t j hts] at hN
        clear hP
        have haj : ((a : Int) + (j : Int)) < (xs[k].bs.length : Int) := by omega
        have h0aj : (0 : Int) ≤ (a : Int) + (j : Int) := by omega
        have htn : ((a : Int) + (j : Int)).toNat = a + j := by omega
        have hwr : IntKind.i64.wrap ((a : Int) + (j : Int)) = (a : Int) + (j : Int) := by rw [IntKind.wrap_i64]; omega
        generalize xs[k].bs.length = L at *
        go_wp2_with fail
        go_region_law (fail)
        all_goals (try go_wp2_with fail)
        all_goals go_roundw
        all_goals first | (exact ⟨j + 1, by omega, by go_num, hN.out.drew⟩) | (simp [intOf]; omega)
      · obtain rfl : j = m := by omega
        have hlt' : ¬ (j : Int) < (j : Int) := by omega
        have hF2 := hide (hfin.out wr hP.out)
        clear hP hfin
        go_wp2_with fail
        go_end0
        exact ⟨rfl, hF2.out⟩
  · exfalso
    rw [HG0.out] at hg
    cases hg
end Go.Proofs.YtdlibnjgmdffnaaGreat
/-
  The document's arena: Copy, Equal, Write.
-/
namespace Go.Proofs.YtdlibnjgmdffnaaGreat
open Go.RowKit Go.Shelf
set_option linter.unusedVariables false

theorem strOf_size (x : List UInt8) : (strOf x).size = x.length := by simp [strOf, ByteArray.size]
theorem strOf_app (x y : List UInt8) : strOf x ++ strOf y = strOf (x ++ y) := by
  apply ByteArray.ext
  simp [strOf]
theorem strOf_data (s : ByteArray) : strOf s.data.toList = s := by
  apply ByteArray.ext
  simp [strOf]
theorem strOf_list (x : List UInt8) : (strOf x).data.toList = x := by simp [strOf]

set_option maxRecDepth 100000 in
set_option maxHeartbeats 4000000 in
theorem ref_copy {w : World} {r : Nat} {F : Nat → Prop} {d : AD} (h : Ref w r F d) (hF : d.Fine) (x y n : Int) (hn : fitsI n) :
    Calls Tryz.prog 53 #[.pointer (some ⟨r, 0, none⟩), .int .i64 x, .int .i64 y, .int .i64 n] w fun e w' => RErrPost w r F (copyR d x y n).1 (copyR d x y n).2 e w' := by
  have HH := hide h
  obtain ⟨v, xs, h1, s, hfo⟩ := h
  have hsp := ref_span h1 s hF x n hn
  have hrd := fun W (kW : Keeps w W (fun _ => False)) => ref_read (HH.out.stay kW) hF y n hn
  have HRD := hide hrd
  have HF := hide hF
  clear h1 s hF hfo hrd
  go_enter Tryz.func53, Tryz.ntmps53
  go_wp2_with fail
  refine hsp.mono ?_
  intro e w1 hp
  clear hsp
  rcases hp with ⟨k1, ⟨k, a, m, hk, rfl, hg, hl_, hoff_, rfl, ham_⟩ | ⟨rfl, hg⟩⟩
  · clear hl_ hoff_ ham_
    have hk0 : ¬ (k : Int) < 0 := by omega
    have hrd := HRD.out w1 k1
    have HG := hide hg
    have K1 := hide k1
    clear hg k1
    unfold readV at hrd
    cases hy : d.goodB y (m : Int)
    · rw [hy] at hrd
      simp only [Bool.false_eq_true, if_false] at hrd
      have HY := hide hy
      clear hy
      go_wp2_with fail
      refine hrd.mono ?_
      rintro e w2 ⟨rfl, k2⟩
      have hfin : Hid (RErrPost w r F (copyR d x y (m : Int)).1 (copyR d x y (m : Int)).2 (.returned (.int .i64 24)) w2) := by
        unfold copyR
        rw [HY.out, Bool.and_false]
        exact ⟨rfl, RTurned.none HH.out (K1.out.trans k2 (fun _ _ e => e))⟩
      clear hrd k2
      go_wp2_with fail
      go_ret
      exact hfin.out
    · rw [hy] at hrd
      simp only [if_true] at hrd
      have HY := hide hy
      have hlen : (strOf (d.span y (m : Int))).size = m := by
        obtain ⟨o, q, e1, e2, _, e3⟩ := HF.out.span hy
        rw [strOf_size]
        unfold AD.span
        simp
        omega
      have hdat : (strOf (d.span y (m : Int))).data.toList = (d.bs.drop y.toNat).take m := by rw [strOf_list]; simp [AD.span]
      have hlay := fun W (kW : Keeps w W (fun _ => False)) => ref_lay (HH.out.stay kW) HF.out x (strOf (d.span y (m : Int))) (by rw [hlen]; exact HG.out)
      have HLAY := hide hlay
      have HDAT := hide hdat
      clear hy hlay hdat hlen
      generalize strOf (d.span y (m : Int)) = S at *
      go_wp2_with fail
      refine hrd.mono ?_
      rintro e w2 ⟨rfl, k2⟩
      have kk := K1.out.trans k2 (fun _ _ e => e)
      have hlay := HLAY.out w2 kk
      have KK := hide kk
      clear hrd kk k2
      go_wp2_with fail
      (with_reducible refine hlay.mono ?_)
      rintro e w3 ⟨rfl, hT⟩
      have hfin : Hid (RErrPost w r F (copyR d x y (m : Int)).1 (copyR d x y (m : Int)).2 (.returned (.int .i64 0)) w3) := by
        unfold copyR
        rw [HG.out, HY.out, Bool.and_true, if_pos rfl]
        refine ⟨rfl, ?_⟩
        have q := hT
        rw [HDAT.out] at q
        exact ⟨q.1.mono (fun i _ e => e.imp id (fun e => by have := KK.out.size; omega)), (KK.out.mono (fun _ _ e => e.elim)).trans q.2 (fun _ _ e => e)⟩
      clear hlay hT
      go_wp2_with fail
      go_ret
      exact hfin.out
  · have hfin : Hid (RErrPost w r F (copyR d x y n).1 (copyR d x y n).2 (.returned (.int .i64 24)) w1) := by
      unfold copyR
      rw [hg, Bool.false_and]
      exact ⟨rfl, RTurned.none HH.out k1⟩
    clear hg
    go_wp2_with fail
    go_ret
    exact hfin.out

set_option maxRecDepth 100000 in
set_option maxHeartbeats 4000000 in
theorem ref_equal {w : World} {r : Nat} {F : Nat → Prop} {d : AD} (h : Ref w r F d) (hF : d.Fine) (x y n : Int) (hn : fitsI n) :
    Calls Tryz.prog 41 #[.pointer (some ⟨r, 0, none⟩), .int .i64 x, .int .i64 y, .int .i64 n] w fun e w' => EqAPost w (equalV d x y n).1 (equalV d x y n).2 e w' := by
  have h1 := ref_read h hF x n hn
  have h2 := fun W (kW : Keeps w W (fun _ => False)) => ref_read (h.stay kW) hF y n hn
  unfold readV at h1 h2
  have H2 := hide h2
  clear h hF h2
  unfold equalV
  cases hx : d.goodB x n
  · rw [hx] at h1
    simp only [Bool.false_eq_true, if_false, Bool.false_and] at h1 ⊢
    cases hy : d.goodB y n
    all_goals
      have h2 := fun W kW => H2.out W kW
      rw [hy] at h2
      simp only [Bool.false_eq_true, if_false, if_true] at h2
      try generalize strOf (d.span y n) = S2 at h2
      have HT := hide h2
      clear hx hy h2 H2
      go_enter Tryz.func41, Tryz.ntmps41
      go_wp2_with fail
      refine h1.mono ?_
      rintro e w1 ⟨rfl, k1⟩
      have h2 := HT.out w1 k1
      clear h1
      go_wp2_with fail
      refine h2.mono ?_
      rintro e w2 ⟨rfl, k2⟩
      have K2 := hide (k1.trans k2 (fun _ _ e => e))
      clear h2 k1 k2
      go_wp2_with fail
      go_ret2
      exact ⟨rfl, K2.out⟩
  · rw [hx] at h1
    simp only [if_true, Bool.true_and] at h1 ⊢
    cases hy : d.goodB y n
    · have h2 := fun W kW => H2.out W kW
      rw [hy] at h2
      simp only [Bool.false_eq_true, if_false] at h2 ⊢
      generalize strOf (d.span x n) = S1 at *
      have HT := hide h2
      clear hx hy h2 H2
      go_enter Tryz.func41, Tryz.ntmps41
      go_wp2_with fail
      refine h1.mono ?_
      rintro e w1 ⟨rfl, k1⟩
      have h2 := HT.out w1 k1
      clear h1
      go_wp2_with fail
      refine h2.mono ?_
      rintro e w2 ⟨rfl, k2⟩
      have K2 := hide (k1.trans k2 (fun _ _ e => e))
      clear h2 k1 k2
      go_wp2_with fail
      go_ret2
      exact ⟨rfl, K2.out⟩
    · have h2 := fun W kW => H2.out W kW
      rw [hy] at h2
      simp only [if_true] at h2 ⊢
      generalize strOf (d.span x n) = S1 at *
      generalize strOf (d.span y n) = S2 at *
      have HT := hide h2
      clear hx hy h2 H2
      go_enter Tryz.func41, Tryz.ntmps41
      go_wp2_with fail
      refine h1.mono ?_
      rintro e w1 ⟨rfl, k1⟩
      have h2 := HT.out w1 k1
      clear h1
      go_wp2_with fail
      refine h2.mono ?_
      rintro e w2 ⟨rfl, k2⟩
      have K2 := hide (k1.trans k2 (fun _ _ e => e))
      clear h2 k1 k2
      go_wp2_with fail
      go_ret2
      exact ⟨rfl, K2.out⟩

theorem joined_take {ts : List ByteArray} {k : Nat} (h : k < ts.length) : strOf (joined (ts.take k)) ++ ts[k] = strOf (joined (ts.take (k + 1))) := by
  rw [List.take_succ_eq_append_getElem h, joined_eq, joined_eq, List.map_append, List.flatten_append, ← strOf_app]
  simp [strOf_data]
set_option maxRecDepth 100000 in
set_option maxHeartbeats 4000000 in
theorem ref_write {w : World} {r : Nat} {F : Nat → Prop} {d : AD} (h : Ref w r F d) (hF : d.Fine) (off : Int) (a : Option Addr) (cap : Nat) (ts : List ByteArray) (hbig : ts.length ≤ 134217728) (hlen : lens ts ≤ 1048576) (hts : TextsAt w a ts) :
    Calls Tryz.prog 54 #[.pointer (some ⟨r, 0, none⟩), .int .i64 off, .slice a ts.length cap] w fun e w' => RErrPost w r F (writeR d off ts).1 (writeR d off ts).2 e w' := by
  have HH := hide h
  have HF := hide hF
  have HT := hide hts
  obtain ⟨v, xs, h1, s, hfo⟩ := h
  have hsp := ref_span h1 s hF off ((lens ts : Nat) : Int) (fitsI_mk (by omega) (by omega))
  clear h1 s hF hfo hts
  have HL := hide hlen
  go_enter Tryz.func54, Tryz.ntmps54
  go_wp2_with fail
  go_loopw [7, 8] (fun s i wr => ∃ k : Nat, k ≤ ts.length ∧ i = .int .i64 (k : Int) ∧ s = .string (strOf (joined (ts.take k))) ∧ w = wr) (fun _ i _ => ts.length - (intOf i).toNat)
  case atStart => exact ⟨0, Nat.zero_le _, rfl, rfl, rfl⟩
  case round =>
    obtain ⟨k, hk, rfl, rfl, rfl⟩ := hrel
    by_cases hlt : k < ts.length
    · obtain ⟨b, o, rfl, _, x0⟩ := HT.out k hlt
      have hlt' : (k : Int) < (ts.length : Int) := by omega
      have HJ := hide (joined_take hlt)
      have hsum : (strOf (joined (ts.take k))).size + (ts[k]).size ≤ 1048576 := by
        rw [strOf_size, joined_length]
        have e1 := lens_take_succ hlt
        have e2 := lens_take_le ts (k + 1)
        omega
      clear hsp
      generalize strOf (joined (ts.take k)) = S at *
      generalize ts[k] = t at *
      go_wp2_with fail
      go_roundw
      case rel => exact ⟨k + 1, by omega, by go_num, by rw [← HJ.out], by trivial⟩
      case measure => simp [intOf]; omega
    · obtain rfl : k = ts.length := by omega
      have hlt' : ¬ (ts.length : Int) < (ts.length : Int) := by omega
      rw [List.take_length]
      have hsz : (strOf (joined ts)).size = lens ts := by rw [strOf_size, joined_length]
      have hdat : (strOf (joined ts)).data.toList = joined ts := strOf_list _
      have HSZ := hide hsz
      have HDT := hide hdat
      rw [← hsz] at hsp
      have hS : (strOf (joined ts)).size ≤ 1048576 := by omega
      clear hsz hdat
      generalize strOf (joined ts) = S at *
      go_wp2_with fail
      refine hsp.mono ?_
      intro e w1 hp
      clear hsp
      rcases hp with ⟨k1, ⟨k, a', m, hk', rfl, hg, hl_, hoff_, hm_, ham_⟩ | ⟨rfl, hg⟩⟩
      · clear hl_ hoff_ hm_ ham_
        have hk0 : ¬ (k : Int) < 0 := by omega
        have hlay := ref_lay (HH.out.stay k1) HF.out off S hg
        have K1 := hide k1
        have HG := hide hg
        clear k1 hg
        go_wp2_with fail
        (with_reducible refine hlay.mono ?_)
        rintro e w2 ⟨rfl, hT⟩
        have hfin : Hid (RErrPost w r F (writeR d off ts).1 (writeR d off ts).2 (.returned (.int .i64 0)) w2) := by
          unfold writeR
          have q := HG.out
          rw [HSZ.out] at q
          rw [q, Bool.true_and, if_pos (decide_eq_true HL.out)]
          refine ⟨rfl, ?_⟩
          have q := hT
          rw [HDT.out] at q
          exact ⟨q.1.mono (fun i _ e => e.imp id (fun e => by have := K1.out.size; omega)), (K1.out.mono (fun _ _ e => e.elim)).trans q.2 (fun _ _ e => e)⟩
        clear hlay hT
        go_wp2_with fail
        go_ret
        exact hfin.out
      · have hfin : Hid (RErrPost w r F (writeR d off ts).1 (writeR d off ts).2 (.returned (.int .i64 24)) w1) := by
          unfold writeR
          have q := hg
          rw [HSZ.out] at q
          rw [q, Bool.false_and]
          exact ⟨rfl, RTurned.none HH.out k1⟩
        clear hg
        go_wp2_with fail
        go_ret
        exact hfin.out
end Go.Proofs.YtdlibnjgmdffnaaGreat
/-
  The document's arena: Blocks, Parts.
-/
namespace Go.Proofs.YtdlibnjgmdffnaaGreat
open Go.RowKit Go.Shelf
set_option linter.unusedVariables false

def rflat (xs : List RB) : List Int := xs.flatMap (fun x => if x.live then [(x.off : Int), (x.bs.length : Int)] else [])
theorem rflat_take (xs : List RB) (k : Nat) (h : k < xs.length) : rflat (xs.take (k + 1)) = rflat (xs.take k) ++ (if xs[k].live then [(xs[k].off : Int), (xs[k].bs.length : Int)] else []) := by
  rw [List.take_succ_eq_append_getElem h, rflat, rflat, List.flatMap_append]
  simp only [List.flatMap_cons, List.flatMap_nil, List.append_nil]
theorem rflat_len (xs : List RB) : (rflat xs).length ≤ 2 * xs.length := by
  induction xs with
  | nil => simp [rflat]
  | cons x r ih =>
    have e : rflat (x :: r) = (if x.live then [(x.off : Int), (x.bs.length : Int)] else []) ++ rflat r := by simp [rflat]
    rw [e, List.length_append, List.length_cons]
    split <;> simp <;> omega
theorem rflat_lives : ∀ (xs : List RB) (L : List (Nat × Nat)) (lv : Int → Option Int), xs.length = L.length → (∀ i (h : i < xs.length) (h' : i < L.length), xs[i].off = L[i].1 ∧ xs[i].bs.length = L[i].2 ∧ xs[i].live = (lv (L[i].1 : Int)).isSome) → rflat xs = flatOf (livesOf L lv)
  | [], [], _, _, _ => rfl
  | [], _ :: _, _, h, _ => by simp at h
  | _ :: _, [], _, h, _ => by simp at h
  | x :: r, y :: l, lv, h, ho => by
    have ih := rflat_lives r l lv (by simpa using h) (fun i hi hi' => by
      have := ho (i + 1) (by simpa using hi) (by simpa using hi')
      simpa using this)
    have h0 := ho 0 (by simp) (by simp)
    simp only [List.getElem_cons_zero] at h0
    obtain ⟨a1, a2, a3⟩ := h0
    have e : rflat (x :: r) = (if x.live then [(x.off : Int), (x.bs.length : Int)] else []) ++ rflat r := by simp [rflat]
    rw [e, ih]
    unfold livesOf
    rw [List.filter_cons, ← a3]
    cases hx : x.live
    · simp
    · simp [flatOf, a1, a2]
theorem Sim.flat {d : AD} {xs : List RB} (s : Sim d xs) : rflat xs = flatOf (livesOf d.L d.lv) := rflat_lives xs d.L d.lv s.len s.one

/-- The list so far, in a block of its own. -/
def BlkLoop (w : World) (ys : List Int) (v : Value) (wr : World) : Prop := wr.ownsRow w.heap.size 3 1 v ys.length (ys.map cellI) ∧ Keeps w wr (fun _ => False)
theorem BlkLoop.more {w wr : World} {ys : List Int} {v : Value} (h : BlkLoop w ys v wr) (z : Int) (hn : ys.length ≤ 1000000000) :
    ∃ g cap w2, (∀ ty, (Builtin.append_ #[32, 32] ty #[v, .slice (some ⟨wr.heap.size, 0, none⟩) 1 1]).run Tryz.prog (wr.alloc (.cells #[.int .i64 z] 3)) = .ok (.slice (some ⟨g, 0, none⟩) (ys.length + 1) cap) w2) ∧ BlkLoop w (ys ++ [z]) (.slice (some ⟨g, 0, none⟩) (ys.length + 1) cap) w2 := by
  obtain ⟨g, cap, w2, hr, hrow, K⟩ := ints_more h.1 z hn h.2.size
  refine ⟨g, cap, w2, hr, hrow, h.2.trans K (fun i hi e => ?_)⟩
  have := (ownsRow_block h.1 e).1
  omega
def RBlocksPost (w : World) (ys : List Int) (e : Ending) (w' : World) : Prop := ∃ so cap, e = .returned (.slice so ys.length cap) ∧ BlkLoop w ys (.slice so ys.length cap) w'

set_option maxRecDepth 100000 in
set_option maxHeartbeats 4000000 in
theorem r2blocks_any {w : World} {r lim en : Nat} {v : Value} {xs : List RB} (h : RAt w r lim en v xs) (hn : xs.length ≤ 134217728) :
    Calls Tryz.prog 21 #[.pointer (some ⟨r, 0, none⟩)] w fun e w' => RBlocksPost w (rflat xs) e w' := by
  have c2 := h.cell2
  obtain ⟨so, cap, rfl, hcap, hC⟩ := h.list
  have HC := hide hC
  have C2 := hide c2
  clear h hC c2
  have hc2 : Hid (∀ W, Keeps w W (fun _ => False) → W.cell? ⟨r, 2, none⟩ = some (.slice so xs.length cap)) := fun W kW => keep_cell kW C2.out
  go_enter Tryz.func21, Tryz.ntmps21
  go_wp2_with fail
  go_loopw [3, 4] (fun s i wr => ∃ k : Nat, ∃ sl cc, k ≤ xs.length ∧ i = .int .i64 (k : Int) ∧ s = .slice sl (rflat (xs.take k)).length cc ∧ Hid (BlkLoop w (rflat (xs.take k)) (.slice sl (rflat (xs.take k)).length cc) wr)) (fun _ i _ => xs.length - (intOf i).toNat)
  case atStart => exact ⟨0, none, 0, Nat.zero_le _, rfl, rfl, (show BlkLoop w [] (.slice none 0 0) w from ⟨World.ownsRow_nil _ _ _ _, Keeps.refl _ _⟩)⟩
  case round =>
    obtain ⟨k, sl, cc, hk, rfl, rfl, hB⟩ := hrel
    have c2 := hc2.out wr hB.out.2
    by_cases hlt : k < xs.length
    · obtain ⟨g, rfl, x0, x1, x2, _⟩ := HC.out k hlt
      have hg := HC.out k hlt
      replace x0 := keep_cell hB.out.2 x0
      replace x1 := keep_cell hB.out.2 x1
      replace x2 := keep_cell hB.out.2 x2
      have hlt' : (k : Int) < (xs.length : Int) := by omega
      have e1 := hide (rflat_take xs k hlt)
      have hlen : (rflat (xs.take k)).length ≤ 2 * xs.length := by
        have := rflat_len (xs.take k)
        rw [List.length_take] at this
        omega
      by_cases hl : xs[k].live = true
      · rw [hl] at x1
        have e2 : Hid (rflat (xs.take (k + 1)) = rflat (xs.take k) ++ [(xs[k].off : Int), (xs[k].bs.length : Int)]) := (show _ = _ by rw [e1.out, hl]; rfl)
        generalize hR : rflat (xs.take k) = R at *
        clear hR e1 hl
        obtain ⟨g1, cap1, w2, hap1, hB1⟩ := hB.out.more (xs[k].off : Int) (by omega)
        obtain ⟨g2, cap2, w3, hap2, hB2⟩ := hB1.more (xs[k].bs.length : Int) (by simp; omega)
        have c2b := hc2.out w2 hB1.2
        obtain ⟨g', hg', _, _, z2, _⟩ := HC.out k hlt
        injection hg' with hg'
        injection hg' with hg'
        subst hg'
        replace z2 := keep_cell hB1.2 z2
        have HB2 := hide hB2
        have hll : (R ++ [(xs[k].off : Int)]).length + 1 = R.length + 1 + 1 := by simp
        have hl2 : (R ++ [(xs[k].off : Int)]).length = R.length + 1 := by simp
        rw [hl2] at hap2
        rw [hl2] at HB2
        clear hB hB1 hB2 HC hc2 hg hll hl2
        generalize xs[k].off = yo at *
        generalize xs[k].bs.length = yl at *
        generalize xs[k].g = yg at *
        go_wp2_with (first | (at_builtin; have _t := hap1; refine append_run _ rfl (.tmp 22) (.tmp 31) 32 rfl rfl rfl hap1 ?_; clear hap1) | (at_builtin; have _t := hap2; refine append_run _ rfl (.tmp 33) (.tmp 43) 32 rfl rfl rfl hap2 ?_; clear hap2))
        go_roundw
        case rel => exact ⟨k + 1, some ⟨g2, 0, none⟩, cap2, by omega, by go_num, by rw [e2.out]; simp, (by rw [e2.out, show (R ++ [(yo : Int), (yl : Int)]).length = R.length + 1 + 1 from by simp]; have q := HB2.out; rw [List.append_assoc] at q; exact q)⟩
        case measure => simp [intOf]; omega
      · have hl' : xs[k].live = false := by simpa using hl
        rw [hl'] at x1
        have e2 : Hid (rflat (xs.take (k + 1)) = rflat (xs.take k)) := (show _ = _ by rw [e1.out, hl']; simp)
        clear HC hc2 hg e1 hl hl'
        go_wp2_with fail
        go_roundw
        case rel => exact ⟨k + 1, sl, cc, by omega, by go_num, by rw [e2.out], by rw [e2.out]; exact hB⟩
        case measure => simp [intOf]; omega
    · obtain rfl : k = xs.length := by omega
      have hlt' : ¬ (xs.length : Int) < (xs.length : Int) := by omega
      have hfin : Hid (RBlocksPost w (rflat xs) (.returned (.slice sl (rflat xs).length cc)) wr) := by
        have q := hB.out
        rw [List.take_length] at q
        exact ⟨sl, cc, rfl, q⟩
      clear HC hc2 hB
      go_wp2_with fail
      go_ret
      exact hfin.out
theorem ref_blocks {w : World} {r : Nat} {F : Nat → Prop} {d : AD} (h : Ref w r F d) (hF : d.Fine) :
    Calls Tryz.prog 21 #[.pointer (some ⟨r, 0, none⟩)] w fun e w' => RBlocksPost w (flatOf (livesOf d.L d.lv)) e w' := by
  obtain ⟨v, xs, h1, s, hfo⟩ := h
  rw [← s.flat]
  exact r2blocks_any h1 (s.few hF)
theorem ref_live {w : World} {r : Nat} {F : Nat → Prop} {d : AD} (h : Ref w r F d) (hF : d.Fine) :
    Calls Tryz.prog 33 #[.pointer (some ⟨r, 0, none⟩)] w fun e w' => e = .returned (.int .i64 (d.used : Int)) ∧ w' = w := by
  obtain ⟨v, xs, h1, s, hfo⟩ := h
  have hsum : rsum xs = d.used := s.sum.trans hF.sum.symm
  have := r2live_any h1 (s.few hF) (by have := hF.use; have := hF.lim; omega)
  rwa [hsum] at this
end Go.Proofs.YtdlibnjgmdffnaaGreat
/-
  The document's arena: Parts.
-/
namespace Go.Proofs.YtdlibnjgmdffnaaGreat
open Go.RowKit Go.Shelf
set_option linter.unusedVariables false

def ptOne (p : Nat × Nat × Bool) : List Value := [.int .i64 (p.1 : Int), .int .i64 (p.2.1 : Int), .bool p.2.2]
def ptCells (ps : List (Nat × Nat × Bool)) : List Value := ps.flatMap ptOne
theorem ptCells_append (a b : List (Nat × Nat × Bool)) : ptCells (a ++ b) = ptCells a ++ ptCells b := by simp [ptCells]
theorem ptCells_length : ∀ ps : List (Nat × Nat × Bool), (ptCells ps).length = ps.length * 3
  | [] => rfl
  | x :: r => by
    have e : ptCells (x :: r) = ptOne x ++ ptCells r := by simp [ptCells]
    rw [e, List.length_append, ptCells_length r, List.length_cons]
    simp [ptOne]
    omega
theorem ptCells_at : ∀ (ps : List (Nat × Nat × Bool)) (i j : Nat) (h : i < ps.length) (hj : j < 3), (ptCells ps)[i * 3 + j]? = (ptOne ps[i])[j]?
  | [], i, j, h, _ => by simp at h
  | x :: r, 0, j, _, hj => by
    have e : ptCells (x :: r) = ptOne x ++ ptCells r := by simp [ptCells]
    rw [e, List.getElem?_append_left (by simp [ptOne]; omega)]
    simp
  | x :: r, i + 1, j, h, hj => by
    have e : ptCells (x :: r) = ptOne x ++ ptCells r := by simp [ptCells]
    have e2 : (ptOne x).length = 3 := rfl
    rw [e, List.getElem?_append_right (by rw [e2]; omega), e2, show (i + 1) * 3 + j - 3 = i * 3 + j by omega, ptCells_at r i j (by simpa using h) hj]
    simp

theorem part_more {w : World} {B : Nat} {v : Value} {ps : List (Nat × Nat × Bool)} (h : w.ownsRow B 44 3 v ps.length (ptCells ps)) (p : Nat × Nat × Bool) (hn : ps.length ≤ 134217728) (hB : B ≤ w.heap.size) :
    ∃ g cap w2, (∀ ty, (Builtin.append_ #[40, 40] ty #[v, .slice (some ⟨w.heap.size, 0, none⟩) 1 1]).run Tryz.prog (w.alloc (.cells #[.int .i64 (p.1 : Int), .int .i64 (p.2.1 : Int), .bool p.2.2] 44)) = .ok (.slice (some ⟨g, 0, none⟩) (ps.length + 1) cap) w2) ∧
      w2.ownsRow B 44 3 (.slice (some ⟨g, 0, none⟩) (ps.length + 1) cap) (ps ++ [p]).length (ptCells (ps ++ [p])) ∧ Keeps w w2 (fun k => v.ownBlock = some k) := by
  obtain ⟨i, hi1, hi2, hi3, hi4⟩ := info_parts Tryz.infoPart
  have k0 : Keeps w (w.alloc (.cells #[.int .i64 (p.1 : Int), .int .i64 (p.2.1 : Int), .bool p.2.2] 44)) (fun _ => False) := (Keeps.refl _ _).alloc _
  have hnew := heap_alloc_new w (.cells #[.int .i64 (p.1 : Int), .int .i64 (p.2.1 : Int), .bool p.2.2] 44)
  obtain ⟨g2, c2, w', hr, h2, h3, h4, _⟩ := run_append_lies (P := Tryz.prog) (w.alloc (.cells #[.int .i64 (p.1 : Int), .int .i64 (p.2.1 : Int), .bool p.2.2] 44)) 40 0 B 44 i (.agg #[.int .i64 0, .int .i64 0, .bool false]) 3 24 Tryz.underlying40 hi1 hi2 hi3 hi4 rfl (by omega)
    v ps.length (ptCells ps) (ownsRow_keeps h k0 (fun _ _ => id)) ⟨w.heap.size, 0, none⟩ 1 1 (ptOne p) rfl
    (fun j x hj => by
      rw [addr_add, Nat.zero_add]
      simp only [World.cell?, hnew]
      simpa [ptOne] using hj)
    (fun x hx => by
      simp only [ptOne, List.mem_cons, List.not_mem_nil, or_false] at hx
      rcases hx with rfl | rfl | rfl <;> rfl) (by omega) (by unfold maxLen; omega) (by omega) (by have := k0.size; omega) _ rfl
  refine ⟨g2, c2, w', fun ty => hr, ?_, (k0.mono (fun _ _ x => x.elim)).trans (Keeps.ofGrown h3) (fun _ _ x => x)⟩
  rw [ptCells_append]
  have e : ptCells [p] = ptOne p := by simp [ptCells]
  rw [e]
  simpa using h2

def RB.part (x : RB) : Nat × Nat × Bool := (x.off, x.bs.length, x.live)
def PtLoop (w : World) (ps : List (Nat × Nat × Bool)) (v : Value) (wr : World) : Prop := wr.ownsRow w.heap.size 44 3 v ps.length (ptCells ps) ∧ Keeps w wr (fun _ => False)
theorem PtLoop.more {w wr : World} {ps : List (Nat × Nat × Bool)} {v : Value} (h : PtLoop w ps v wr) (p : Nat × Nat × Bool) (hn : ps.length ≤ 134217728) :
    ∃ g cap w2, (∀ ty, (Builtin.append_ #[40, 40] ty #[v, .slice (some ⟨wr.heap.size, 0, none⟩) 1 1]).run Tryz.prog (wr.alloc (.cells #[.int .i64 (p.1 : Int), .int .i64 (p.2.1 : Int), .bool p.2.2] 44)) = .ok (.slice (some ⟨g, 0, none⟩) (ps.length + 1) cap) w2) ∧ PtLoop w (ps ++ [p]) (.slice (some ⟨g, 0, none⟩) (ps.length + 1) cap) w2 := by
  obtain ⟨g, cap, w2, hr, hrow, K⟩ := part_more h.1 p hn h.2.size
  refine ⟨g, cap, w2, hr, hrow, h.2.trans K (fun i hi e => ?_)⟩
  have := (ownsRow_block h.1 e).1
  omega
def RPartsPost (w : World) (ps : List (Nat × Nat × Bool)) (e : Ending) (w' : World) : Prop := ∃ so cap, e = .returned (.slice so ps.length cap) ∧ PtLoop w ps (.slice so ps.length cap) w'

set_option maxRecDepth 100000 in
set_option maxHeartbeats 4000000 in
theorem r2parts_any {w : World} {r lim en : Nat} {v : Value} {xs : List RB} (h : RAt w r lim en v xs) (hn : xs.length ≤ 134217728) :
    Calls Tryz.prog 37 #[.pointer (some ⟨r, 0, none⟩)] w fun e w' => RPartsPost w (xs.map RB.part) e w' := by
  have c2 := h.cell2
  obtain ⟨so, cap, rfl, hcap, hC⟩ := h.list
  have HC := hide hC
  have C2 := hide c2
  clear h hC c2
  have hc2 : Hid (∀ W, Keeps w W (fun _ => False) → W.cell? ⟨r, 2, none⟩ = some (.slice so xs.length cap)) := fun W kW => keep_cell kW C2.out
  go_enter Tryz.func37, Tryz.ntmps37
  go_wp2_with fail
  go_loopw [3, 4] (fun s i wr => ∃ k : Nat, ∃ sl cc, k ≤ xs.length ∧ i = .int .i64 (k : Int) ∧ s = .slice sl k cc ∧ Hid (PtLoop w ((xs.take k).map RB.part) (.slice sl k cc) wr)) (fun _ i _ => xs.length - (intOf i).toNat)
  case atStart => exact ⟨0, none, 0, Nat.zero_le _, rfl, rfl, (show PtLoop w [] (.slice none 0 0) w from ⟨World.ownsRow_nil _ _ _ _, Keeps.refl _ _⟩)⟩
  case round =>
    obtain ⟨k, sl, cc, hk, rfl, rfl, hB⟩ := hrel
    have c2 := hc2.out wr hB.out.2
    by_cases hlt : k < xs.length
    · obtain ⟨g, rfl, x0, x1, x2, _⟩ := HC.out k hlt
      replace x0 := keep_cell hB.out.2 x0
      replace x1 := keep_cell hB.out.2 x1
      replace x2 := keep_cell hB.out.2 x2
      have hlt' : (k : Int) < (xs.length : Int) := by omega
      have hll : ((xs.take k).map RB.part).length = k := by rw [List.length_map, List.length_take]; omega
      have hBd : PtLoop w ((xs.take k).map RB.part) (.slice sl k cc) wr.drew := ⟨ownsRow_drew hB.out.1, hB.out.2.drew⟩
      obtain ⟨g1, cap1, w2, hap, hB1⟩ := hBd.more xs[k].part (by rw [hll]; omega)
      have e2 : Hid ((xs.take (k + 1)).map RB.part = (xs.take k).map RB.part ++ [xs[k].part]) := (show _ = _ by rw [List.take_succ_eq_append_getElem hlt, List.map_append]; rfl)
      rw [hll] at hap hB1
      have HB1 := hide hB1
      simp only [RB.part] at hap
      have hg0 := HC.out k hlt
      have hkeepS : ∀ W, Keeps w W (fun _ => False) → W.cell? ⟨r, 2, none⟩ = some (.slice (some ⟨g, 0, none⟩) xs.length cap) ∧ W.cell? ⟨g, k * 3, none⟩ = some (.int .i64 (xs[k].off : Int)) ∧ W.cell? ⟨g, k * 3 + 1, none⟩ = some (.bool xs[k].live) ∧ W.cell? ⟨g, k * 3 + 2, none⟩ = some (.slice (some ⟨xs[k].g, 0, none⟩) xs[k].bs.length (xs[k].bs.length + xs[k].sp.length)) := fun W kW => by
        obtain ⟨g', hg', z0, z1, z2, _⟩ := HC.out k hlt
        injection hg' with hg'
        injection hg' with hg'
        subst hg'
        exact ⟨hc2.out W kW, keep_cell kW z0, keep_cell kW z1, keep_cell kW z2⟩
      have S0 := hkeepS wr.drew hB.out.2.drew
      have S1 := hkeepS (wr.alloc (.cells #[.int .i64 (xs[k].off : Int), .int .i64 (xs[k].bs.length : Int), .bool xs[k].live] 44)).drew (hB.out.2.alloc _).drew
      have S2 := hkeepS w2 hB1.2
      clear hkeepS hg0
      have q0 : (wr.alloc (.cells #[.int .i64 (xs[k].off : Int), .int .i64 (xs[k].bs.length : Int), .bool xs[k].live] 44)).heap.size = wr.heap.size + 1 := by simp
      clear hB hBd hB1 HC hc2 hll q0
      generalize xs[k].part = pp at *
      generalize xs[k].off = yo at *
      generalize xs[k].bs.length = yl at *
      generalize xs[k].sp.length = ysp at *
      generalize xs[k].live = yv at *
      generalize xs[k].g = yg at *
      go_wp2_with fail
      go_region_held3 (fun w' => w'.cell? ⟨r, 2, none⟩ = some (.slice (some ⟨g, 0, none⟩) xs.length cap) ∧ w'.cell? ⟨g, k * 3, none⟩ = some (.int .i64 (yo : Int)) ∧ w'.cell? ⟨g, k * 3 + 1, none⟩ = some (.bool yv) ∧ w'.cell? ⟨g, k * 3 + 2, none⟩ = some (.slice (some ⟨yg, 0, none⟩) yl (yl + ysp))) (first | with_reducible assumption | exact S0 | exact S1 | exact S2) (first | (refine step_append_run (by rfl) _ _ 40 (by rfl) (by rfl) (by rfl) hap ?_))
      all_goals (try go_wp2_with fail)
      all_goals go_roundw
      all_goals first | (exact ⟨k + 1, some ⟨g1, 0, none⟩, cap1, by omega, by go_num, by trivial, (by rw [e2.out]; exact HB1)⟩) | (simp [intOf]; omega)
    · obtain rfl : k = xs.length := by omega
      have hlt' : ¬ (xs.length : Int) < (xs.length : Int) := by omega
      have hfin : Hid (RPartsPost w (xs.map RB.part) (.returned (.slice sl xs.length cc)) wr) := by
        have q := hB.out
        rw [List.take_length] at q
        have e : (xs.map RB.part).length = xs.length := by simp
        refine (show RPartsPost _ _ _ _ from ⟨sl, cc, by rw [e], ?_⟩)
        rw [e]
        exact q
      clear HC hc2 hB
      go_wp2_with fail
      go_ret
      exact hfin.out
/-- The parts of the data. -/
def psD (d : AD) : List (Nat × Nat × Bool) := d.L.map (fun x => (x.1, x.2, (d.lv (x.1 : Int)).isSome))
theorem Sim.parts {d : AD} {xs : List RB} (s : Sim d xs) : xs.map RB.part = psD d := by
  unfold psD
  refine List.ext_getElem (by simp [s.len]) (fun i h1 h2 => ?_)
  simp only [List.getElem_map, RB.part]
  have hi : i < xs.length := by simpa using h1
  have hi' : i < d.L.length := by simpa using h2
  obtain ⟨a1, a2, a3⟩ := s.one i hi hi'
  rw [a1, a2, a3]
theorem ref_parts {w : World} {r : Nat} {F : Nat → Prop} {d : AD} (h : Ref w r F d) (hF : d.Fine) :
    Calls Tryz.prog 37 #[.pointer (some ⟨r, 0, none⟩)] w fun e w' => RPartsPost w (psD d) e w' := by
  obtain ⟨v, xs, h1, s, hfo⟩ := h
  rw [← s.parts]
  exact r2parts_any h1 (s.few hF)
end Go.Proofs.YtdlibnjgmdffnaaGreat
