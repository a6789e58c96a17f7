import Derived.Test.YtgmcpjklgacdpaaRows
import Derived.WalkKit
import Derived.Outline
import Derived.Below
import Derived.Great.BuildSlice
import Derived.Test.YtgmcpjklgacdpaaIn2
namespace Go.Proofs.Ytgmcpjklgacdpaa
open Go.RowKit

theorem Try.infoE : (Try.prog.info? 5).map (fun i => (i.zero, i.size, i.bytes)) = some (some (.int .u8 0), 1, 1) := by kernel_rfl

set_option maxHeartbeats 400000 in
theorem new_no (n : Int) (w : World) (h : n < 0 ∨ 134217728 < n) :
    Calls Try.prog 35 #[.int .i64 n] w fun e w' => e = .returned (.tuple #[.pointer none, .int .i64 12]) ∧ w' = w := by
  rcases h with h | h
  · go_enter Try.func35, Try.ntmps35
    go_wp2
    go_ret2
    exact ⟨rfl, rfl⟩
  · have h0 : ¬ n < 0 := by omega
    go_enter Try.func35, Try.ntmps35
    go_wp2
    go_ret2
    exact ⟨rfl, rfl⟩

set_option maxHeartbeats 400000 in
theorem new_yes (n : Nat) (w : World) (h : n ≤ 134217728) :
    Calls Try.prog 35 #[.int .i64 (n : Int)] w fun e w' => NewPost 106 5 w n e w' := by
  have h0 : ¬ (n : Int) < 0 := by omega
  have h1 : ¬ (134217728 : Int) < (n : Int) := by omega
  have hmk := run_make_bytes (P := Try.prog) w 94 5 Try.underlying94 Try.infoE n h
  go_enter Try.func35, Try.ntmps35
  go_wp2
  go_ret2
  exact newPost_mk 106 5 w n h

theorem len_any (w : World) (b g : Nat) (bs sp : List UInt8) (m : MemAt 106 5 w b g bs sp) :
    Calls Try.prog 39 #[.pointer (some ⟨b, 0, none⟩)] w fun e w' => e = .returned (.int .i64 (bs.length : Int)) ∧ w' = w := by
  have hc := m.cell
  have hl : bs.length ≤ 134217728 := by have := m.hmax; omega
  clear m
  go_enter Try.func39, Try.ntmps39
  go_wp2
  go_ret
  exact ⟨rfl, rfl⟩

set_option maxHeartbeats 400000 in
theorem inside_yes (w : World) (b g : Nat) (bs sp : List UInt8) (m : MemAt 106 5 w b g bs sp) (off n : Int) (h : insideB bs.length off n = true) :
    Calls Try.prog 69 #[.pointer (some ⟨b, 0, none⟩), .int .i64 off, .int .i64 n] w fun e w' => e = .returned (.bool true) ∧ w' = w := by
  have hc := m.cell
  have hl : bs.length ≤ 134217728 := by have := m.hmax; omega
  obtain ⟨h1, h2, h3, h4⟩ := insideB_true h
  clear m h
  go_enter Try.func69, Try.ntmps69
  go_wp2
  go_ret
  exact ⟨rfl, rfl⟩

set_option maxHeartbeats 400000 in
theorem inside_no (w : World) (b g : Nat) (bs sp : List UInt8) (m : MemAt 106 5 w b g bs sp) (off n : Int) (h : insideB bs.length off n = false) :
    Calls Try.prog 69 #[.pointer (some ⟨b, 0, none⟩), .int .i64 off, .int .i64 n] w fun e w' => e = .returned (.bool false) ∧ w' = w := by
  have hc := m.cell
  have hl : bs.length ≤ 134217728 := by have := m.hmax; omega
  have hn := insideB_false h
  clear m h
  by_cases h1 : 0 ≤ off
  · by_cases h2 : 0 ≤ n
    · by_cases h3 : n ≤ bs.length
      · have h4 : ¬ off ≤ bs.length - n := fun h4 => hn ⟨h1, h2, h3, h4⟩
        clear hn
        go_enter Try.func69, Try.ntmps69
        go_wp2
        go_ret
        exact ⟨rfl, rfl⟩
      · clear hn
        go_enter Try.func69, Try.ntmps69
        go_wp2
        go_ret
        exact ⟨rfl, rfl⟩
    · clear hn
      go_enter Try.func69, Try.ntmps69
      go_wp2
      go_ret
      exact ⟨rfl, rfl⟩
  · clear hn
    go_enter Try.func69, Try.ntmps69
    go_wp2
    go_ret
    exact ⟨rfl, rfl⟩

set_option maxHeartbeats 400000 in
theorem span_any (w : World) (b g : Nat) (bs sp : List UInt8) (m : MemAt 106 5 w b g bs sp) (o n : Nat) (h : o + n ≤ bs.length) :
    Calls Try.prog 70 #[.pointer (some ⟨b, 0, none⟩), .int .i64 (o : Int), .int .i64 (n : Int)] w fun e w' => e = .returned (spanVal g (bs.length + sp.length) o n) ∧ w' = w := by
  have hc := m.cell
  have hl : bs.length + sp.length ≤ 134217728 := m.hmax
  have hs := run_slice_span (P := Try.prog) w 94 5 Try.underlying94 Try.infoE g bs.length (bs.length + sp.length) o n (by omega)
  clear m
  go_enter Try.func70, Try.ntmps70
  go_wp2
  go_ret
  exact ⟨rfl, rfl⟩
end Go.Proofs.Ytgmcpjklgacdpaa
namespace Go.Proofs.Ytgmcpjklgacdpaa
open Go.RowKit

set_option maxHeartbeats 400000 in
theorem read_no (w : World) (b g : Nat) (bs sp : List UInt8) (m : MemAt 106 5 w b g bs sp) (off n : Int) (h : insideB bs.length off n = false) :
    Calls Try.prog 44 #[.pointer (some ⟨b, 0, none⟩), .int .i64 off, .int .i64 n] w fun e w' => e = .returned (.tuple #[.slice none 0 0, .int .i64 11]) ∧ w' = w := by
  go_enter Try.func44, Try.ntmps44
  go_wp2_with (go_at_call 69; refine (inside_no _ b g bs sp m _ _ h).mono ?_; rintro e w' ⟨rfl, rfl⟩)
  go_ret2
  exact ⟨rfl, rfl⟩

set_option maxHeartbeats 400000 in
theorem read_yes (w : World) (b g : Nat) (bs sp : List UInt8) (m : MemAt 106 5 w b g bs sp) (o n : Nat) (h : o + n ≤ bs.length) :
    Calls Try.prog 44 #[.pointer (some ⟨b, 0, none⟩), .int .i64 (o : Int), .int .i64 (n : Int)] w fun e w' => ReadPost 5 w bs o n e w' := by
  have hl : bs.length + sp.length ≤ 134217728 := m.hmax
  have hin := insideB_mk h
  obtain ⟨q, hq, hv⟩ := spanVal_eq g (bs.length + sp.length) o n
  have hmk := run_make_bytes (P := Try.prog) w 94 5 Try.underlying94 Try.infoE n (by omega)
  have m1 : MemAt 106 5 (w.alloc (.cells (rowOf (zeros n)) 5)) b g bs sp := m.keeps ((Keeps.refl _ (fun _ => False)).alloc _) id id
  obtain ⟨w2, hcp, hpost⟩ := read_copy (P := Try.prog) 94 94 5 Try.underlying94 Try.infoE m h hq
  go_enter Try.func44, Try.ntmps44
  go_wp2_with (first | (go_at_call 69; refine (inside_yes _ b g bs sp m _ _ hin).mono ?_; rintro e w' ⟨rfl, rfl⟩) | (go_at_call 70; refine (span_any _ b g bs sp m1 o n h).mono ?_; rintro e w' ⟨rfl, rfl⟩))
  go_ret2
  exact hpost
end Go.Proofs.Ytgmcpjklgacdpaa
namespace Go.Proofs.Ytgmcpjklgacdpaa
open Go.RowKit

set_option maxHeartbeats 1000000 in
theorem fits_out (w : World) (b g : Nat) (bs sp : List UInt8) (m : MemAt 106 5 w b g bs sp) (off : Int) (pv : Value) (h : insideB bs.length off 0 = false) :
    Calls Try.prog 72 #[.pointer (some ⟨b, 0, none⟩), .int .i64 off, pv] w fun e w' => e = .returned (.bool false) ∧ w' = w := by
  go_enter Try.func72, Try.ntmps72
  go_wp2_with fail
  refine (inside_no _ b g bs sp m _ _ h).mono ?_
  rintro e w' ⟨rfl, rfl⟩
  go_wp2_with fail
  go_ret
  exact ⟨rfl, rfl⟩

def FitsPost (w : World) (v : Bool) (e : Ending) (w' : World) : Prop := e = .returned (.bool v) ∧ w' = w

set_option maxHeartbeats 1000000 in
theorem fits_in (w : World) (b g pb pc : Nat) (bs sp : List UInt8) (xs : List (List UInt8)) (m : MemAt 106 5 w b g bs sp) (o : Nat) (ho : o ≤ bs.length) (hx : xs.length ≤ 140737488355328) (ps : PartsAt w g pb xs) :
    Calls Try.prog 72 #[.pointer (some ⟨b, 0, none⟩), .int .i64 (o : Int), .slice (some ⟨pb, 0, none⟩) xs.length pc] w fun e w' => FitsPost w (fitsB bs.length o (catAll xs).length) e w' := by
  have hl : bs.length + sp.length ≤ 134217728 := m.hmax
  have hc := m.cell
  have hin : insideB bs.length (o : Int) 0 = true := insideB_mk (k := 0) (by omega)
  go_enter Try.func72, Try.ntmps72
  go_wp2_with fail
  refine (inside_yes _ b g bs sp m _ _ hin).mono ?_
  rintro e w' ⟨rfl, rfl⟩
  clear m hin
  go_wp2_with fail
  go_loop [7, 23] (fun r i => ∃ k : Nat, k ≤ xs.length ∧ i = .int .i64 (k : Int) ∧ o + (catTo xs k).length ≤ bs.length ∧ r = .int .i64 ((bs.length : Int) - o - (catTo xs k).length)) (fun _ i => xs.length - (intOf i).toNat)
  case atStart => exact ⟨0, Nat.zero_le _, rfl, by simp [catTo_zero]; omega, by simp [catTo_zero]⟩
  case round =>
    obtain ⟨k, hk, rfl, hr, rfl⟩ := hrel
    by_cases hlt : k < xs.length
    · obtain ⟨v, hv, hb, oo, c, rfl, h1, h2, h3, h4⟩ := ps.part k hlt
      have hle := catTo_le' xs (k + 1)
      have hs := catTo_succ xs k hlt
      have hsl : (catTo xs (k + 1)).length = (catTo xs k).length + xs[k].length := by rw [hs]; simp
      clear hs ps h4
      by_cases hfit : o + (catTo xs k).length + xs[k].length ≤ bs.length
      · have HS : Hid ((catTo xs (k + 1)).length = (catTo xs k).length + xs[k].length) := hsl
        clear hsl
        go_wp2
        go_round
        case rel => exact ⟨k + 1, by omega, by go_num, by rw [HS.out]; omega, by rw [HS.out]; go_num⟩
        case measure => simp [intOf]; omega
      · have hd : fitsB bs.length o (catAll xs).length = false := fitsB_false (by omega)
        have HD : Hid (fitsB bs.length o (catAll xs).length = false) := hd
        clear hsl hd hle
        go_wp2
        go_ret
        exact ⟨by rw [HD.out]; rfl, rfl⟩
    · have hall : k = xs.length := by omega
      have hd : fitsB bs.length o (catAll xs).length = true := fitsB_true (by rw [← catTo_all', ← hall]; exact hr)
      have HD : Hid (fitsB bs.length o (catAll xs).length = true) := hd
      clear hall hd
      go_wp2
      go_ret
      exact ⟨by rw [HD.out]; rfl, rfl⟩

def WritePost (w : World) (b g : Nat) (bs sp : List UInt8) (e : Ending) (w' : World) : Prop :=
  e = .returned (.int .i64 0) ∧ MemAt 106 5 w' b g bs sp ∧ Keeps w w' (fun i => i = g)

set_option maxHeartbeats 1000000 in
theorem write_out (w : World) (b g : Nat) (bs sp : List UInt8) (m : MemAt 106 5 w b g bs sp) (off : Int) (pv : Value) (h : insideB bs.length off 0 = false) :
    Calls Try.prog 49 #[.pointer (some ⟨b, 0, none⟩), .int .i64 off, pv] w fun e w' => e = .returned (.int .i64 11) ∧ w' = w := by
  go_enter Try.func49, Try.ntmps49
  go_wp2_with fail
  refine (fits_out _ b g bs sp m _ _ h).mono ?_
  rintro e w' ⟨rfl, rfl⟩
  go_wp2_with fail
  go_ret
  exact ⟨rfl, rfl⟩

set_option maxHeartbeats 1000000 in
theorem write_no (w : World) (b g pb pc : Nat) (bs sp : List UInt8) (xs : List (List UInt8)) (m : MemAt 106 5 w b g bs sp) (o : Nat) (ho : o ≤ bs.length) (hx : xs.length ≤ 140737488355328) (ps : PartsAt w g pb xs) (hno : bs.length < o + (catAll xs).length) :
    Calls Try.prog 49 #[.pointer (some ⟨b, 0, none⟩), .int .i64 (o : Int), .slice (some ⟨pb, 0, none⟩) xs.length pc] w fun e w' => e = .returned (.int .i64 11) ∧ w' = w := by
  have hf := fits_in w b g pb pc bs sp xs m o ho hx ps
  rw [fitsB_false hno] at hf
  go_enter Try.func49, Try.ntmps49
  go_wp2_with fail
  refine hf.mono ?_
  rintro e w' ⟨rfl, rfl⟩
  go_wp2_with fail
  go_ret
  exact ⟨rfl, rfl⟩

set_option maxHeartbeats 1000000 in
theorem write_yes (w : World) (b g pb pc : Nat) (bs sp : List UInt8) (xs : List (List UInt8)) (m : MemAt 106 5 w b g bs sp) (o : Nat) (hx : xs.length ≤ 140737488355328) (ps : PartsAt w g pb xs) (hyes : o + (catAll xs).length ≤ bs.length) :
    Calls Try.prog 49 #[.pointer (some ⟨b, 0, none⟩), .int .i64 (o : Int), .slice (some ⟨pb, 0, none⟩) xs.length pc] w fun e w' => WritePost w b g (splice bs o (catAll xs)) sp e w' := by
  have hf := fits_in w b g pb pc bs sp xs m o (by omega) hx ps
  rw [fitsB_true hyes] at hf
  have hl : bs.length + sp.length ≤ 134217728 := m.hmax
  go_enter Try.func49, Try.ntmps49
  go_wp2_with fail
  refine hf.mono ?_
  rintro e w' ⟨rfl, rfl⟩
  clear hf
  go_wp2_with fail
  go_loopw [1, 16] (fun r i wr => ∃ k : Nat, k ≤ xs.length ∧ i = .int .i64 (k : Int) ∧ r = .int .i64 ((o : Int) + (catTo xs k).length) ∧ MemAt 106 5 wr b g (splice bs o (catTo xs k)) sp ∧ Keeps w' wr (fun i => i = g)) (fun _ i _ => xs.length - (intOf i).toNat)
  case atStart => exact ⟨0, Nat.zero_le _, rfl, by simp [catTo_zero], by rw [catTo_zero, splice_nil]; exact m, Keeps.refl _ _⟩
  case round =>
    obtain ⟨k, hk, rfl, rfl, mk, kk⟩ := hrel
    have hle := catTo_le' xs k
    by_cases hlt : k < xs.length
    · obtain ⟨v, hv, hp⟩ := (ps.keeps kk).part k hlt
      obtain ⟨hb, oo, c, rfl, h1, h2, h3, h4⟩ := hp
      have hle1 := catTo_le' xs (k + 1)
      have hs := catTo_succ xs k hlt
      have hsl : (catTo xs (k + 1)).length = (catTo xs k).length + xs[k].length := by rw [hs]; simp
      have hlen : (splice bs o (catTo xs k)).length = bs.length := splice_length (by omega)
      have hc := mk.cell
      rw [hlen] at hc
      have ht := run_slice_tail (P := Try.prog) wr 94 5 Try.underlying94 Try.infoE g bs.length (bs.length + sp.length) (o + (catTo xs k).length) (by omega)
      obtain ⟨q, hq, hv2⟩ := tailVal_eq g bs.length (bs.length + sp.length) (o + (catTo xs k).length)
      rw [hv2, Int.natCast_add] at ht
      obtain ⟨w2, hcp, m2, k2⟩ := mem_copy (P := Try.prog) 94 94 5 Try.underlying94 Try.infoE mk (l := o + (catTo xs k).length) (q := q) (dLen := bs.length - (o + (catTo xs k).length)) (dCap := bs.length + sp.length - (o + (catTo xs k).length)) (sLen := xs[k].length) (sCap := c) (a := ⟨hb, oo, none⟩) xs[k]
        (by rw [hlen]; omega) (by rw [hlen]; exact hq) (Nat.min_eq_left (by omega)).symm (fun j hj => by rw [addr_add]; exact h4 j hj)
      rw [splice_splice (by omega), ← hs] at m2
      have K2 := kk.trans k2 (fun _ _ x => x)
      have HS : Hid ((catTo xs (k + 1)).length = (catTo xs k).length + xs[k].length) := hsl
      clear hs hsl ps h4 hv2 hq mk kk k2 hlen
      go_wp2
      go_roundw
      case rel => exact ⟨k + 1, by omega, by go_num, by rw [HS.out]; go_num, m2, K2⟩
      case measure => simp [intOf]; omega
    · have hall : k = xs.length := by omega
      subst hall
      rw [catTo_all'] at mk
      go_wp2
      go_ret
      exact ⟨rfl, mk, kk⟩
end Go.Proofs.Ytgmcpjklgacdpaa
namespace Go.Proofs.Ytgmcpjklgacdpaa
open Go.RowKit

/-- One part alone. -/
theorem parts_one {w : World} {g pb h n c : Nat} {x y : List UInt8} {e t : TypeId} {fz : Nat × Nat} (hr : w.heap[h]? = some (.cells (rowOf (x ++ y)) e fz)) (hg : h ≠ g) (hn : n = x.length) (hx : x.length ≤ 140737488355328) (hpb : pb = w.heap.size) (hpg : pb ≠ g) :
    PartsAt (w.alloc (.cells #[.slice (some ⟨h, 0, none⟩) n c] t)) g pb [x] := by
  subst hpb
  subst hn
  refine ⟨by simp, hpg, fun j hj => ?_⟩
  have h0 : j = 0 := by simpa using hj
  subst h0
  refine ⟨.slice (some ⟨h, 0, none⟩) x.length c, ?_, part_of_row (y := y) (e := e) (fz := fz) ?_ hg hx⟩
  · simp only [World.cell?, heap_alloc_new]
    simp
  · rw [Below.heap_alloc _ _ _ (heap_lt hr)]
    exact hr
theorem write_one_yes {w : World} {b g pb h n c o : Nat} {bs sp x y : List UInt8} {fz : Nat × Nat} (m : MemAt 106 5 w b g bs sp) (hr : w.heap[h]? = some (.cells (rowOf (x ++ y)) 5 fz)) (hg : h ≠ g) (hn : n = x.length) (hx : x.length ≤ 140737488355328) (hpb : pb = w.heap.size) (hfit : o + x.length ≤ bs.length) :
    Calls Try.prog 49 #[.pointer (some ⟨b, 0, none⟩), .int .i64 (o : Int), .slice (some ⟨pb, 0, none⟩) 1 1] (w.alloc (.cells #[.slice (some ⟨h, 0, none⟩) n c] 94))
      fun e w' => WritePost (w.alloc (.cells #[.slice (some ⟨h, 0, none⟩) n c] 94)) b g (splice bs o x) sp e w' := by
  have hlt := heap_lt m.hg
  have := write_yes (w.alloc (.cells #[.slice (some ⟨h, 0, none⟩) n c] 94)) b g pb 1 bs sp [x] (m.keeps ((Keeps.refl _ (fun _ => False)).alloc _) id id) o (by simp) (parts_one hr hg hn hx hpb (by omega)) (by rw [catAll_one]; exact hfit)
  rw [catAll_one] at this
  exact this

def MadePost (w : World) (bs : List UInt8) (e : Ending) (w' : World) : Prop :=
  ∃ b g, w.heap.size ≤ b ∧ w.heap.size ≤ g ∧ e = .returned (.pointer (some ⟨b, 0, none⟩)) ∧ MemAt 106 5 w' b g bs [] ∧ Keeps w w' (fun _ => False)
end Go.Proofs.Ytgmcpjklgacdpaa
namespace Go.Proofs.Ytgmcpjklgacdpaa
open Go.RowKit

/-- The byte at a place; -1: there is none. -/
def atVal (bs : List UInt8) (p : Int) : Int := if 0 ≤ p then (match bs[p.toNat]? with | some x => (x.toNat : Int) | none => -1) else -1
theorem atVal_in (bs : List UInt8) (q : Nat) (h : q < bs.length) : atVal bs (q : Int) = (bs[q].toNat : Int) := by
  simp [atVal, h]
theorem atVal_out (bs : List UInt8) (p : Int) (h : p < 0 ∨ (bs.length : Int) ≤ p) : atVal bs p = -1 := by
  unfold atVal
  by_cases h0 : 0 ≤ p
  · rw [if_pos h0, List.getElem?_eq_none (by omega)]
  · rw [if_neg h0]

def AtPost (w : World) (v : Int) (e : Ending) (w' : World) : Prop := e = .returned (.int .i64 v) ∧ Keeps w w' (fun _ => False)
end Go.Proofs.Ytgmcpjklgacdpaa
namespace Go.Proofs.Ytgmcpjklgacdpaa
open Go.RowKit

theorem inside_any (w : World) (b g : Nat) (bs sp : List UInt8) (m : MemAt 106 5 w b g bs sp) (off n : Int) :
    Calls Try.prog 69 #[.pointer (some ⟨b, 0, none⟩), .int .i64 off, .int .i64 n] w fun e w' => e = .returned (.bool (insideB bs.length off n)) ∧ w' = w := by
  cases h : insideB bs.length off n
  · exact inside_no w b g bs sp m off n h
  · exact inside_yes w b g bs sp m off n h

set_option maxHeartbeats 400000 in
theorem copy_no (w : World) (b g : Nat) (bs sp : List UInt8) (m : MemAt 106 5 w b g bs sp) (d s n : Int) (h : (insideB bs.length d n && insideB bs.length s n) = false) :
    Calls Try.prog 47 #[.pointer (some ⟨b, 0, none⟩), .int .i64 d, .int .i64 s, .int .i64 n] w fun e w' => e = .returned (.int .i64 11) ∧ w' = w := by
  cases h1 : insideB bs.length d n
  · have hc := inside_no w b g bs sp m d n h1
    clear h h1
    go_enter Try.func47, Try.ntmps47
    go_wp2_with fail
    refine hc.mono ?_
    rintro e w' ⟨rfl, rfl⟩
    go_wp2_with fail
    go_ret
    exact ⟨rfl, rfl⟩
  · rw [h1, Bool.true_and] at h
    have hc := inside_yes w b g bs sp m d n h1
    have hc2 := inside_no w b g bs sp m s n h
    clear h h1
    go_enter Try.func47, Try.ntmps47
    go_wp2_with fail
    refine hc.mono ?_
    rintro e w' ⟨rfl, rfl⟩
    go_wp2_with fail
    refine hc2.mono ?_
    rintro e w' ⟨rfl, rfl⟩
    go_wp2_with fail
    go_ret
    exact ⟨rfl, rfl⟩

set_option maxHeartbeats 400000 in
theorem copy_yes (w : World) (b g : Nat) (bs sp : List UInt8) (m : MemAt 106 5 w b g bs sp) (d s n : Nat) (h1 : d + n ≤ bs.length) (h2 : s + n ≤ bs.length) :
    Calls Try.prog 47 #[.pointer (some ⟨b, 0, none⟩), .int .i64 (d : Int), .int .i64 (s : Int), .int .i64 (n : Int)] w fun e w' => WritePost w b g (splice bs d ((bs.drop s).take n)) sp e w' := by
  have hc := inside_yes w b g bs sp m d n (insideB_mk h1)
  have hc2 := inside_yes w b g bs sp m s n (insideB_mk h2)
  have hs1 := span_any w b g bs sp m d n h1
  have hs2 := span_any w b g bs sp m s n h2
  obtain ⟨q, hq, hv⟩ := spanVal_eq g (bs.length + sp.length) d n
  obtain ⟨q2, hq2, hv2⟩ := spanVal_eq g (bs.length + sp.length) s n
  rw [hv] at hs1
  rw [hv2] at hs2
  have hlen : ((bs.drop s).take n).length = n := by simp; omega
  obtain ⟨w2, hcp, m2, k2⟩ := mem_copy (P := Try.prog) 94 94 5 Try.underlying94 Try.infoE m (l := d) (q := q) (dLen := n) (dCap := bs.length + sp.length - d) (sLen := n) (sCap := bs.length + sp.length - s) (a := ⟨g, q2, none⟩) ((bs.drop s).take n)
    (by rw [hlen]; exact h1) hq (by rw [hlen]; exact (Nat.min_self n).symm) (m.span h2 hq2)
  rw [hlen] at hcp
  clear m hv hv2 hq hq2 hlen
  go_enter Try.func47, Try.ntmps47
  go_wp2_with fail
  refine hc.mono ?_
  rintro e w' ⟨rfl, rfl⟩
  go_wp2_with fail
  refine hc2.mono ?_
  rintro e w' ⟨rfl, rfl⟩
  clear hc hc2
  go_wp2_with fail
  refine hs1.mono ?_
  rintro e w' ⟨rfl, rfl⟩
  go_wp2_with fail
  refine hs2.mono ?_
  rintro e w' ⟨rfl, rfl⟩
  clear hs1 hs2
  go_wp2_with fail
  go_ret
  exact ⟨rfl, m2, k2⟩
end Go.Proofs.Ytgmcpjklgacdpaa
namespace Go.Proofs.Ytgmcpjklgacdpaa
open Go.RowKit

def same (n : Nat) (u : UInt8) : List UInt8 := List.replicate n u
theorem same_length (n : Nat) (u : UInt8) : (same n u).length = n := by simp [same]
theorem same_zero (n : Nat) : same n 0 = zeros n := rfl
theorem same_succ (n : Nat) (u : UInt8) : same n u ++ [u] = same (n + 1) u := by
  simp [same, List.replicate_succ']

set_option maxHeartbeats 400000 in
theorem fill_no (w : World) (b g : Nat) (bs sp : List UInt8) (m : MemAt 106 5 w b g bs sp) (o n x : Int) (h : insideB bs.length o n = false) :
    Calls Try.prog 46 #[.pointer (some ⟨b, 0, none⟩), .int .i64 o, .int .i64 n, .int .u8 x] w fun e w' => e = .returned (.int .i64 11) ∧ w' = w := by
  have hc := inside_no w b g bs sp m o n h
  clear h
  go_enter Try.func46, Try.ntmps46
  go_wp2_with fail
  refine hc.mono ?_
  rintro e w' ⟨rfl, rfl⟩
  go_wp2_with fail
  go_ret
  exact ⟨rfl, rfl⟩

set_option maxHeartbeats 400000 in
theorem fill_zero (w : World) (b g : Nat) (bs sp : List UInt8) (m : MemAt 106 5 w b g bs sp) (o n : Nat) (h : o + n ≤ bs.length) :
    Calls Try.prog 46 #[.pointer (some ⟨b, 0, none⟩), .int .i64 (o : Int), .int .i64 (n : Int), .int .u8 0] w fun e w' => WritePost w b g (splice bs o (zeros n)) sp e w' := by
  have hc := inside_yes w b g bs sp m o n (insideB_mk h)
  have hs1 := span_any w b g bs sp m o n h
  obtain ⟨q, hq, hv⟩ := spanVal_eq g (bs.length + sp.length) o n
  rw [hv] at hs1
  obtain ⟨w2, hcl, m2, k2⟩ := mem_clear (P := Try.prog) 94 5 Try.underlying94 Try.infoE m (l := o) (q := q) (n := n) (c := bs.length + sp.length - o) h hq
  clear m hv hq
  go_enter Try.func46, Try.ntmps46
  go_wp2_with fail
  refine hc.mono ?_
  rintro e w' ⟨rfl, rfl⟩
  clear hc
  go_wp2_with fail
  refine hs1.mono ?_
  rintro e w' ⟨rfl, rfl⟩
  clear hs1
  go_wp2_with fail
  go_ret
  exact ⟨rfl, m2, k2⟩

set_option maxHeartbeats 1000000 in
theorem fill_other (w : World) (b g : Nat) (bs sp : List UInt8) (m : MemAt 106 5 w b g bs sp) (o n : Nat) (h : o + n ≤ bs.length) (u : UInt8) (hu : ((u.toNat : Int) == 0) = false) :
    Calls Try.prog 46 #[.pointer (some ⟨b, 0, none⟩), .int .i64 (o : Int), .int .i64 (n : Int), .int .u8 (u.toNat : Int)] w fun e w' => WritePost w b g (splice bs o (same n u)) sp e w' := by
  have hl : bs.length + sp.length ≤ 134217728 := m.hmax
  have hc := inside_yes w b g bs sp m o n (insideB_mk h)
  have hs1 := span_any w b g bs sp m o n h
  obtain ⟨q, hq, hv⟩ := spanVal_eq g (bs.length + sp.length) o n
  rw [hv] at hs1
  clear hv
  go_enter Try.func46, Try.ntmps46
  go_wp2_with fail
  refine hc.mono ?_
  rintro e w' ⟨rfl, rfl⟩
  clear hc
  go_wp2_with fail
  refine hs1.mono ?_
  rintro e w' ⟨rfl, rfl⟩
  clear hs1
  go_wp2_with fail
  go_loopw [25] (fun i wr => ∃ k : Nat, k ≤ n ∧ i = .int .i64 (k : Int) ∧ MemAt 106 5 wr b g (splice bs o (same k u)) sp ∧ Keeps w' wr (fun i => i = g)) (fun i _ => n - (intOf i).toNat)
  case atStart => exact ⟨0, Nat.zero_le _, rfl, by rw [show same 0 u = [] from rfl, splice_nil]; exact m, Keeps.refl _ _⟩
  case round =>
    obtain ⟨k, hk, rfl, mk, kk⟩ := hrel
    have hsl := same_length k u
    by_cases hlt : k < n
    · have hqo : q = o := by
        rcases hq with hq | ⟨_, hz⟩
        · exact hq
        · omega
      have hlen : (splice bs o (same k u)).length = bs.length := splice_length (by omega)
      obtain ⟨v0, hv0⟩ := mk.gcell_any (q + k) (by rw [hlen]; omega)
      have hfz := mk.gfrozen (q + k)
      have hst := mk.store (q + k) (by rw [hlen]; omega) u
      rw [show q + k = o + k from by omega, splice_set hsl (by omega), same_succ, ← show q + k = o + k from by omega] at hst
      have K2 := kk.trans hst.2 (fun _ _ x => x)
      have M2 := hst.1
      clear hst mk kk hsl hlen hqo hq
      go_wp2
      go_roundw
      case rel => exact ⟨k + 1, by omega, by go_num, M2, K2⟩
      case measure => simp [intOf]; omega
    · have hall : k = n := by omega
      subst hall
      go_wp2
      go_ret
      exact ⟨rfl, mk, kk⟩

theorem fill_yes (w : World) (b g : Nat) (bs sp : List UInt8) (m : MemAt 106 5 w b g bs sp) (o n : Nat) (h : o + n ≤ bs.length) (u : UInt8) :
    Calls Try.prog 46 #[.pointer (some ⟨b, 0, none⟩), .int .i64 (o : Int), .int .i64 (n : Int), .int .u8 (u.toNat : Int)] w fun e w' => WritePost w b g (splice bs o (same n u)) sp e w' := by
  by_cases hu : u = 0
  · subst hu
    exact fill_zero w b g bs sp m o n h
  · refine fill_other w b g bs sp m o n h u (beq_eq_false_iff_ne.2 ?_)
    intro h0
    apply hu
    apply UInt8.toNat_inj.1
    have : (0 : UInt8).toNat = 0 := rfl
    omega
end Go.Proofs.Ytgmcpjklgacdpaa
/-
  Plain laws on growing a memory.
-/
namespace Go.Proofs.Ytgmcpjklgacdpaa
open Go.RowKit

/-- The slice's length turns, within the room. -/
theorem MemAt.reslice {T E : TypeId} {w : World} {b g : Nat} {bs sp : List UInt8} (m : MemAt T E w b g bs sp) (s : Nat) (h1 : bs.length ≤ s) (h2 : s ≤ bs.length + sp.length) :
    MemAt T E (w.setCell ⟨b, 0, none⟩ (.slice (some ⟨g, 0, none⟩) s (bs.length + sp.length))) b g (bs ++ sp.take (s - bs.length)) (sp.drop (s - bs.length)) ∧
      Keeps w (w.setCell ⟨b, 0, none⟩ (.slice (some ⟨g, 0, none⟩) s (bs.length + sp.length))) (fun i => i = b) := by
  have e1 : (bs ++ sp.take (s - bs.length)).length = s := by simp; omega
  have e2 : s + (sp.drop (s - bs.length)).length = bs.length + sp.length := by simp; omega
  refine ⟨⟨?_, ?_, ?_, m.hne⟩, (Keeps.refl w (fun i => i = b)).setCell _ (fun _ => rfl) _⟩
  · rw [heap_setCell_zero m.hb, e1, e2]
  · rw [Below.heap_setCell _ _ _ _ (fun e => m.hne e.symm), m.hg, List.append_assoc, List.take_append_drop]
  · rw [e1, e2]; exact m.hmax

/-- The bytes lie in a new block g2 with more room; the struct is told. -/
theorem MemAt.moved {T E : TypeId} {w w2 : World} {b g g2 room : Nat} {bs sp : List UInt8} (m : MemAt T E w b g bs sp) (k : Keeps w w2 (fun _ => False)) (hg2 : w2.heap[g2]? = some (.cells (rowOf (bs ++ zeros (room - bs.length))) E)) (hlt : w.heap.size ≤ g2) (h1 : bs.length ≤ room) (h2 : room ≤ 134217728) :
    MemAt T E (w2.setCell ⟨b, 0, none⟩ (.slice (some ⟨g2, 0, none⟩) bs.length room)) b g2 bs (zeros (room - bs.length)) ∧
      Keeps w (w2.setCell ⟨b, 0, none⟩ (.slice (some ⟨g2, 0, none⟩) bs.length room)) (fun i => i = b) := by
  have hbl := heap_lt m.hb
  have hb2 := (k.block b hbl id).trans m.hb
  have e1 : bs.length + (zeros (room - bs.length)).length = room := by rw [zeros_length]; omega
  refine ⟨⟨?_, ?_, ?_, by omega⟩, (k.mono (S1 := fun i => i = b) (fun _ _ x => x.elim)).setCell _ (fun _ => rfl) _⟩
  · rw [heap_setCell_zero hb2, e1]
  · rw [Below.heap_setCell _ _ _ _ (by show g2 ≠ b; omega), hg2]
  · rw [e1]; exact h2

section
variable {P : Program}
theorem run_slice_head (w : World) (t e : TypeId) (ht : P.underlying t = some (.slice e)) (hi : (P.info? e).map (fun i => (i.zero, i.size, i.bytes)) = some (some (.int .u8 0), 1, 1)) (g len cap h : Nat) (hh : h ≤ cap) :
    (Instr.slice t (.slice (some ⟨g, 0, none⟩) len cap) none (some (.int .i64 (h : Int))) none).run P w = .ok (.slice (some ⟨g, 0, none⟩) h cap) w := by
  have ht' : P.underlying t = some (.slice (P.elem t)) := by simp [Program.elem, ht]
  have he : P.elem t = e := by simp [Program.elem, ht]
  rw [run_slice_h w t _ _ _ ht' .i64 _ (by omega) (by omega), he, run_sizeOf_byte w e hi]
  simp [Result.andThen, sliced, Addr.add]

/-- The copy of move. -/
theorem move_copy (t sT : TypeId) {T : TypeId} (E : TypeId) (hu : P.underlying t = some (.slice E)) (hi : (P.info? E).map (fun i => (i.zero, i.size, i.bytes)) = some (some (.int .u8 0), 1, 1))
    {w : World} {b g : Nat} {bs sp : List UInt8} (m : MemAt T E w b g bs sp) {room : Nat} (h1 : bs.length ≤ room) :
    ∃ w2, (∀ ty, (Builtin.copy_ #[t, sT] ty #[.slice (some ⟨w.heap.size, 0, none⟩) bs.length room, .slice (some ⟨g, 0, none⟩) bs.length (bs.length + sp.length)]).run P (w.alloc (.cells (rowOf (zeros room)) E)) = .ok (goInt bs.length) w2) ∧
      Keeps w w2 (fun _ => False) ∧ w2.heap[w.heap.size]? = some (.cells (rowOf (bs ++ zeros (room - bs.length))) E) := by
  have m1 : MemAt T E (w.alloc (.cells (rowOf (zeros room)) E)) b g bs sp := m.keeps ((Keeps.refl _ (fun _ => False)).alloc _) id id
  have hsrc : ∀ j (h : j < bs.length), (w.alloc (.cells (rowOf (zeros room)) E)).cell? ((⟨g, 0, none⟩ : Addr).add j) = some (.int .u8 (bs[j].toNat : Int)) := fun j h => by
    rw [addr_add, Nat.zero_add]
    exact m1.gcell j h
  have h := fun ty => run_copy_bytes (P := P) (w.alloc (.cells (rowOf (zeros room)) E)) t sT ty E hu hi w.heap.size 0 bs.length room ⟨g, 0, none⟩ bs.length (bs.length + sp.length) (zeros room) bs
    (heap_alloc_new _ _) (Nat.min_self _).symm hsrc (by rw [zeros_length]; omega)
  refine ⟨_, h, ((Keeps.refl _ _).alloc _).setRow _ (fun h => absurd h (Nat.lt_irrefl _)) _, ?_⟩
  rw [heap_setRow_same (heap_alloc_new w (.cells (rowOf (zeros room)) E))]
  have e : (zeros room).take 0 ++ bs ++ (zeros room).drop (0 + bs.length) = bs ++ zeros (room - bs.length) := by
    simp [zeros]
  rw [e]
end
/-- What move leaves. -/
def MovePost (T E : TypeId) (w : World) (b : Nat) (bs : List UInt8) (room : Nat) (e : Ending) (w' : World) : Prop :=
  ∃ g2, w.heap.size ≤ g2 ∧ e = .returned (.tuple #[]) ∧ MemAt T E w' b g2 bs (zeros (room - bs.length)) ∧ Keeps w w' (fun i => i = b)
theorem splice_grown (bs x : List UInt8) (n : Nat) (h : x.length = n) : splice (bs ++ x) bs.length (zeros n) = bs ++ zeros n := by
  unfold splice
  rw [List.take_left' rfl, List.drop_of_length_le (by rw [zeros_length, List.length_append]; omega), List.append_nil]
end Go.Proofs.Ytgmcpjklgacdpaa
