import Derived.Deep.RegionHeld
import Derived.BigQuiet
import Derived.Test.YtdlibnjgmdffnaaGreatFn14
/-
  Parts that are handed in, as data: possible, liveBytes.
-/
namespace Go.Proofs.YtdlibnjgmdffnaaGreat
open Go.RowKit Go.Shelf
set_option linter.unusedVariables false

/-- A row of parts in the memory. -/
def PartsIn (w : World) (a : Option Addr) (ps : List (Int × Int × Bool)) : Prop := ps = [] ∨ ∃ b o, a = some ⟨b, o, none⟩ ∧ ∀ i (h : i < ps.length),
  w.cell? ⟨b, o + i * 3, none⟩ = some (.int .i64 ps[i].1) ∧ w.cell? ⟨b, o + i * 3 + 1, none⟩ = some (.int .i64 ps[i].2.1) ∧ w.cell? ⟨b, o + i * 3 + 2, none⟩ = some (.bool ps[i].2.2)
theorem PartsIn.keeps {w w' : World} {a : Option Addr} {ps : List (Int × Int × Bool)} (h : PartsIn w a ps) (k : Keeps w w' (fun _ => False)) : PartsIn w' a ps := by
  rcases h with h | ⟨b, o, e, hc⟩
  · exact Or.inl h
  · exact Or.inr ⟨b, o, e, fun i hi => ⟨k.cellK (hc i hi).1, k.cellK (hc i hi).2.1, k.cellK (hc i hi).2.2⟩⟩
def sumL : List (Int × Int × Bool) → Int
  | [] => 0
  | x :: r => (if x.2.2 = true then x.2.1 else 0) + sumL r
def sumP : List (Int × Int × Bool) → Int
  | [] => 0
  | x :: r => x.2.1 + sumP r
def clsP (c : Int) : List (Int × Int × Bool) → Int
  | [] => 0
  | x :: r => (if x.2.1 = c then x.2.1 else 0) + clsP c r
theorem sumL_snoc (l : List (Int × Int × Bool)) (x : Int × Int × Bool) : sumL (l ++ [x]) = sumL l + (if x.2.2 = true then x.2.1 else 0) := by
  induction l with
  | nil => simp [sumL]
  | cons y r ih => simp only [List.cons_append, sumL, ih]; omega
theorem sumP_snoc (l : List (Int × Int × Bool)) (x : Int × Int × Bool) : sumP (l ++ [x]) = sumP l + x.2.1 := by
  induction l with
  | nil => simp [sumP]
  | cons y r ih => simp only [List.cons_append, sumP, ih]; omega
theorem clsP_snoc (c : Int) (l : List (Int × Int × Bool)) (x : Int × Int × Bool) : clsP c (l ++ [x]) = clsP c l + (if x.2.1 = c then x.2.1 else 0) := by
  induction l with
  | nil => simp [clsP]
  | cons y r ih => simp only [List.cons_append, clsP, ih]; omega
theorem sumL_bound {m : Int} (hm : 0 ≤ m) : ∀ (l : List (Int × Int × Bool)), (∀ x ∈ l, 0 ≤ x.2.1 ∧ x.2.1 ≤ m) → 0 ≤ sumL l ∧ sumL l ≤ m * l.length
  | [], _ => by simp [sumL]
  | y :: r, h => by
    have ih := sumL_bound hm r (fun x hx => h x (List.mem_cons_of_mem _ hx))
    have hy := h y (List.mem_cons_self ..)
    have e : m * ((y :: r).length : Int) = m * (r.length : Int) + m := by simp [Int.mul_add]
    rw [e]
    simp only [sumL]
    split <;> omega
theorem sumP_bound {m : Int} (hm : 0 ≤ m) : ∀ (l : List (Int × Int × Bool)), (∀ x ∈ l, 0 ≤ x.2.1 ∧ x.2.1 ≤ m) → 0 ≤ sumP l ∧ sumP l ≤ m * l.length
  | [], _ => by simp [sumP]
  | y :: r, h => by
    have ih := sumP_bound hm r (fun x hx => h x (List.mem_cons_of_mem _ hx))
    have hy := h y (List.mem_cons_self ..)
    have e : m * ((y :: r).length : Int) = m * (r.length : Int) + m := by simp [Int.mul_add]
    rw [e]
    simp only [sumP]
    omega
theorem clsP_le (c : Int) : ∀ (l : List (Int × Int × Bool)), (∀ x ∈ l, 0 ≤ x.2.1) → 0 ≤ clsP c l ∧ clsP c l ≤ sumP l
  | [], _ => by simp [clsP, sumP]
  | y :: r, h => by
    have ih := clsP_le c r (fun x hx => h x (List.mem_cons_of_mem _ hx))
    have hy := h y (List.mem_cons_self ..)
    simp only [clsP, sumP]
    split <;> omega

set_option maxRecDepth 100000 in
set_option maxHeartbeats 1000000 in
theorem liveBytes_any (a : Option Addr) (ca : Nat) (ps : List (Int × Int × Bool)) (w : World) (hl : ps.length ≤ 134217728) (hs : ∀ x ∈ ps, 0 ≤ x.2.1 ∧ x.2.1 ≤ 1048576) (h1 : PartsIn w a ps) :
    Calls Tryz.prog 25 #[.slice a ps.length ca] w fun e w' => e = .returned (.int .i64 (sumL ps)) ∧ Keeps w w' (fun _ => False) := by
  go_enter Tryz.func25, Tryz.ntmps25
  go_wp2_with fail
  go_loopg [3, 8] ps.length (fun g s3 s8 wr => ∃ i : Nat, g = ps.length - i ∧ i ≤ ps.length ∧ s3 = .int .i64 (sumL (ps.take i)) ∧ s8 = .int .i64 (i : Int) ∧ Keeps w wr (fun _ => False))
  case atStart => exact ⟨0, rfl, Nat.zero_le _, rfl, rfl, Keeps.refl _ _⟩
  case round =>
    obtain ⟨i, rfl, hi, rfl, rfl, kr⟩ := hrel
    by_cases hlt : i < ps.length
    · rcases h1 with rfl | ⟨b1, o1, rfl, hc⟩
      · simp at hlt
      obtain ⟨x1, x2, x3⟩ := hc i hlt
      replace x1 := kr.cellK x1
      replace x2 := kr.cellK x2
      replace x3 := kr.cellK x3
      have hlt' : (i : Int) < (ps.length : Int) := by omega
      have e1 : sumL (ps.take (i + 1)) = sumL (ps.take i) + (if ps[i].2.2 = true then ps[i].2.1 else 0) := by rw [← List.take_append_getElem hlt]; exact sumL_snoc _ _
      have hsz := hs _ (List.getElem_mem hlt)
      have hbd := sumL_bound (m := 1048576) (by omega) (ps.take i) (fun x hx => hs x (List.mem_of_mem_take hx))
      have hbl : (ps.take i).length ≤ 134217728 := by rw [List.length_take]; omega
      have hb : 0 ≤ sumL (ps.take i) ∧ sumL (ps.take i) ≤ 1048576 * 134217728 := ⟨hbd.1, by have := hbd.2; omega⟩
      clear hc hbd hbl hs
      generalize ps[i].1 = y1 at *
      generalize ps[i].2.1 = y2 at *
      generalize ps[i].2.2 = y3 at *
      generalize sumL (ps.take i) = z at *
      cases y3 with
      | true =>
        rw [if_pos rfl] at e1
        have E1 := hide e1
        clear e1
        go_wp2_with fail
        go_roundg (ps.length - (i + 1))
        case measure => omega
        case rel => exact ⟨i + 1, rfl, by omega, by rw [E1.out], by simp, kr.alloc _⟩
      | false =>
        rw [if_neg (by simp), Int.add_zero] at e1
        have E1 := hide e1
        clear e1
        go_wp2_with fail
        go_roundg (ps.length - (i + 1))
        case measure => omega
        case rel => exact ⟨i + 1, rfl, by omega, by rw [E1.out], by simp, kr.alloc _⟩
    · obtain rfl : i = ps.length := by omega
      have hlt' : ¬ (ps.length : Int) < (ps.length : Int) := by omega
      have e : sumL (ps.take ps.length) = sumL ps := by rw [List.take_length]
      rw [e]
      clear e h1 hs
      go_wp2_with fail
      go_ret
      exact ⟨rfl, kr⟩
end Go.Proofs.YtdlibnjgmdffnaaGreat
/-
  possible: can an arena have these parts?
-/
namespace Go.Proofs.YtdlibnjgmdffnaaGreat
open Go.RowKit Go.Shelf
set_option linter.unusedVariables false

/-- May this part be there? -/
def okP (limit : Int) (ps : List (Int × Int × Bool)) (k : Nat) : Prop := ∀ (h : k < ps.length), ps[k].1 = 16 + sumP (ps.take k) ∧ classI ps[k].2.1 ≠ 0 ∧ ps[k].2.1 = classI ps[k].2.1 ∧ clsP ps[k].2.1 (ps.take (k + 1)) ≤ limit
theorem okP.size {limit : Int} {ps : List (Int × Int × Bool)} {k : Nat} (h : okP limit ps k) (hk : k < ps.length) : 0 ≤ ps[k].2.1 ∧ ps[k].2.1 ≤ 1048576 := by
  obtain ⟨_, h1, h2, _⟩ := h hk
  have := classI_bounds ps[k].2.1
  omega
theorem okP.sizes {limit : Int} {ps : List (Int × Int × Bool)} {i : Nat} (h : ∀ k, k < i → okP limit ps k) : ∀ x ∈ ps.take i, 0 ≤ x.2.1 ∧ x.2.1 ≤ 1048576 := fun x hx => by
  obtain ⟨j, hj, rfl⟩ := List.getElem_of_mem hx
  rw [List.length_take] at hj
  rw [List.getElem_take]
  exact (h j (by omega)).size (by omega)

def PossPost (limit : Int) (ps : List (Int × Int × Bool)) (w : World) (e : Ending) (w' : World) : Prop := ∃ t : Bool, e = .returned (.bool t) ∧ (t = true ↔ ∀ k, okP limit ps k) ∧ Keeps w w' (fun _ => False)

set_option maxRecDepth 100000 in
set_option maxHeartbeats 4000000 in
theorem possible_any (limit : Nat) (hlim : limit ≤ 2097152) (a : Option Addr) (ca : Nat) (ps : List (Int × Int × Bool)) (w : World) (hl : ps.length ≤ 134217728) (h1 : PartsIn w a ps) :
    Calls Tryz.prog 24 #[.int .i64 (limit : Int), .slice a ps.length ca] w fun e w' => PossPost limit ps w e w' := by
  have hmm := @run_makeMap Tryz.prog
  have hm0 := MapTo.made (c := cInt) Tryz.prog w
  have k0 : Keeps w (w.alloc (.map #[] 0)) (fun _ => False) := (Keeps.refl _ _).alloc _
  go_enter Tryz.func24, Tryz.ntmps24
  go_wp2_with fail
  go_loopw [5, 13] (fun ve vi wr => ∃ (i : Nat) (f : Int → Option Int), ve = .int .i64 (16 + sumP (ps.take i)) ∧ vi = .int .i64 (i : Int) ∧ i ≤ ps.length ∧ (∀ k, k < i → okP limit ps k) ∧ MapTo Tryz.prog cInt wr w.heap.size i f ∧ (∀ c, (f c).getD 0 = clsP c (ps.take i)) ∧ Keeps w wr (fun _ => False)) (fun _ vi _ => ps.length - (intOf vi).toNat)
  case atStart => exact ⟨0, fun _ => none, rfl, rfl, Nat.zero_le _, fun k hk => by omega, hm0, fun c => rfl, k0⟩
  case round =>
    clear hm0 k0 hmm
    obtain ⟨i, f, rfl, rfl, hi, hok, hm, hf, kr⟩ := hrel
    have hsz := okP.sizes hok
    have hbd := sumP_bound (m := 1048576) (by omega) (ps.take i) hsz
    have hbl : (ps.take i).length ≤ 134217728 := by rw [List.length_take]; omega
    have hb : 0 ≤ sumP (ps.take i) ∧ sumP (ps.take i) ≤ 1048576 * 134217728 := ⟨hbd.1, by have := hbd.2; omega⟩
    by_cases hlt : i < ps.length
    · rcases h1 with rfl | ⟨b1, o1, rfl, hc⟩
      · simp at hlt
      obtain ⟨x1, x2, x3⟩ := hc i hlt
      replace x1 := kr.cellK x1
      replace x2 := kr.cellK x2
      replace x3 := kr.cellK x3
      have hlt' : (i : Int) < (ps.length : Int) := by omega
      have e1 : Hid (sumP (ps.take (i + 1)) = sumP (ps.take i) + ps[i].2.1) := by rw [← List.take_append_getElem hlt]; exact sumP_snoc _ _
      have e2 : Hid (∀ c, clsP c (ps.take (i + 1)) = clsP c (ps.take i) + (if ps[i].2.1 = c then ps[i].2.1 else 0)) := fun c => by rw [← List.take_append_getElem hlt]; exact clsP_snoc _ _ _
      have hiff : Hid (okP limit ps i ↔ (ps[i].1 = 16 + sumP (ps.take i) ∧ classI ps[i].2.1 ≠ 0 ∧ ps[i].2.1 = classI ps[i].2.1 ∧ clsP ps[i].2.1 (ps.take (i + 1)) ≤ limit)) := ⟨fun h => h hlt, fun h _ => h⟩
      have hcb := fun c => clsP_le c (ps.take i) (fun x hx => (hsz x hx).1)
      have hno : Hid (¬ okP limit ps i → ((false = true) ↔ ∀ k, okP limit ps k)) := fun h => ⟨fun e => (nomatch e), fun h2 => absurd (h2 i) h⟩
      have hyes : Hid (okP limit ps i → ∀ k, k < i + 1 → okP limit ps k) := fun h k hk => by
        by_cases e : k = i
        · subst e; exact h
        · exact hok k (by omega)
      have hcl := fun W => class_any ps[i].2.1 W
      have hcI := classI_bounds ps[i].2.1
      have k1 : Keeps w (wr.alloc (.cells #[.int .i64 ps[i].1, .int .i64 ps[i].2.1, .bool ps[i].2.2] 44)) (fun _ => False) := kr.alloc _
      have hm1 : MapTo Tryz.prog cInt (wr.alloc (.cells #[.int .i64 ps[i].1, .int .i64 ps[i].2.1, .bool ps[i].2.2] 44)) w.heap.size i f := hm.keeps ((Keeps.refl wr (fun _ => False)).alloc _) id
      have hlk := look_int (w := (wr.alloc (.cells #[.int .i64 ps[i].1, .int .i64 ps[i].2.1, .bool ps[i].2.2] 44))) Tryz.underlying3 Tryz.underlying52 (Tryz.zeroI _) hm1 (x := classI ps[i].2.1) (fitsI_mk (by omega) (by omega))
      rw [hf] at hlk
      obtain ⟨w2, hst, hm2, k2⟩ := hm1.store (v := .int .i64 (clsP (classI ps[i].2.1) (ps.take i) + classI ps[i].2.1)) (a := clsP (classI ps[i].2.1) (ps.take i) + classI ps[i].2.1) Tryz.underlying3 Tryz.underlying52 (by unfold maxLen; omega) (x := classI ps[i].2.1) (fitsI_mk (by omega) (by omega)) (rdr_int _)
      have hlk2 := look_int (w := w2) Tryz.underlying3 Tryz.underlying52 (Tryz.zeroI _) hm2 (x := classI ps[i].2.1) (fitsI_mk (by omega) (by omega))
      rw [upd_same, Option.getD_some] at hlk2
      have K2 : Keeps w w2 (fun _ => False) := k1.trans k2 (fun i hi e => by omega)
      have hcb1 := hcb (classI ps[i].2.1)
      have hnew : Hid (ps[i].2.1 = classI ps[i].2.1 → ∀ c, ((upd f (classI ps[i].2.1) (some (clsP (classI ps[i].2.1) (ps.take i) + classI ps[i].2.1))) c).getD 0 = clsP c (ps.take (i + 1))) := fun h c => by
        rw [e2.out c]
        unfold upd
        by_cases e : c = classI ps[i].2.1
        · rw [if_pos e, if_pos (h.trans e.symm), Option.getD_some, e, ← h]
        · rw [if_neg e, hf, if_neg (fun e' => e (e'.symm.trans h)), Int.add_zero]
      have hcsum : Hid (ps[i].2.1 = classI ps[i].2.1 → clsP ps[i].2.1 (ps.take (i + 1)) = clsP (classI ps[i].2.1) (ps.take i) + classI ps[i].2.1) := fun h => by
        rw [e2.out, if_pos rfl, ← h]
      clear hc hm hf hcb hbd hbl hsz hok e2 hm1 k2
      generalize classI ps[i].2.1 = cz at *
      generalize clsP ps[i].2.1 (ps.take (i + 1)) = C2 at *
      generalize clsP cz (ps.take i) = C at *
      generalize ps[i].1 = y1 at *
      generalize ps[i].2.1 = y2 at *
      generalize ps[i].2.2 = y3 at *
      generalize hE : sumP (ps.take i) = E at *
      by_cases g1 : y1 = 16 + E
      · by_cases g2 : cz = 0
        · have hn := hide (hno.out (fun h => (hiff.out.1 h).2.1 g2))
          clear hno hiff hyes hnew hcsum e1 hlk hlk2 hst hm2 K2
          subst g1
          go_wp2_with fail
          refine (hcl _).mono ?_
          rintro e w3 ⟨rfl, rfl⟩
          go_wp2_with fail
          go_ret
          exact ⟨false, rfl, hn.out, k1⟩
        · by_cases g3 : y2 = cz
          · by_cases g4 : (limit : Int) < C + cz
            · have hn := hide (hno.out (fun h => by have := (hiff.out.1 h).2.2.2; rw [hcsum.out g3] at this; omega))
              clear hno hiff hyes hnew hcsum e1 hm2
              subst g1 g3
              go_wp2_with fail
              refine (hcl _).mono ?_
              rintro e w3 ⟨rfl, rfl⟩
              go_wp2_with fail
              go_ret
              exact ⟨false, rfl, hn.out, K2⟩
            · have hy := hide (hyes.out (hiff.out.2 ⟨g1, g2, g3, by rw [hcsum.out g3]; omega⟩))
              have hnw := hide (hnew.out g3)
              clear hno hiff hyes hnew hcsum
              subst g1 g3
              go_wp2_with fail
              refine (hcl _).mono ?_
              rintro e w3 ⟨rfl, rfl⟩
              go_wp2_with fail
              go_roundw
              case rel => exact ⟨i + 1, _, by rw [e1.out, Int.add_assoc], by go_num, by omega, hy.out, hm2, hnw.out, K2⟩
              case measure => simp [intOf]; omega
          · have hn := hide (hno.out (fun h => g3 (hiff.out.1 h).2.2.1))
            have q1 : (cz == 0) = false := beq_eq_false_iff_ne.2 g2
            have q2 : (y2 != cz) = true := by simpa using g3
            clear hno hiff hyes hnew hcsum e1 hlk hlk2 hst hm2 K2
            subst g1
            go_wp2_with fail
            refine (hcl _).mono ?_
            rintro e w3 ⟨rfl, rfl⟩
            go_wp2_with fail
            go_ret
            exact ⟨false, rfl, hn.out, k1⟩
      · have hn := hide (hno.out (fun h => g1 (hiff.out.1 h).1))
        clear hno hiff hyes hnew hcsum e1 hlk hlk2 hst hm2 K2
        go_wp2_with fail
        refine (hcl _).mono ?_
        rintro e w3 ⟨rfl, rfl⟩
        go_wp2_with fail
        go_ret
        exact ⟨false, rfl, hn.out, k1⟩
    · have hlt' : ¬ (i : Int) < (ps.length : Int) := by omega
      have hall : Hid ((true = true) ↔ ∀ k, okP limit ps k) := ⟨fun _ k => by
        by_cases hk : k < i
        · exact hok k hk
        · exact fun h => absurd h (by omega), fun _ => rfl⟩
      clear h1 hok hm hf hsz hbd
      go_wp2_with fail
      go_ret
      exact ⟨true, rfl, by simpa using hall.out, kr⟩
end Go.Proofs.YtdlibnjgmdffnaaGreat
/-
  restore: a part is the arena's next block.
-/
namespace Go.Proofs.YtdlibnjgmdffnaaGreat
open Go.RowKit Go.Shelf
set_option linter.unusedVariables false

/-- The next block is free. -/
def AD.putF (d : AD) (n : Nat) : AD := { d with bs := d.bs ++ zeros n, L := d.L ++ [(d.bs.length, n)], fm := upd d.fm (n : Int) (some (rising ((d.fm (n : Int)).getD [] ++ [(d.bs.length : Int)]))) }
/-- The next block is live, with these bytes. -/
def AD.putL (d : AD) (n : Nat) (x : List UInt8) : AD := (d.took n).bytes (splice (d.took n).bs d.bs.length x)

theorem three_cells {w : World} {b : Nat} {x y z : Value} {t : TypeId} (h : w.heap[b]? = some (.cells #[x, y, z] t)) : w.cell? ⟨b, 0, none⟩ = some x ∧ w.cell? ⟨b, 1, none⟩ = some y ∧ w.cell? ⟨b, 2, none⟩ = some z := by
  simp [World.cell?, h]

set_option maxRecDepth 100000 in
set_option maxHeartbeats 4000000 in
theorem restore_free {w : World} {p : Nat} {F : Nat → Prop} {d : AD} (h : Arena w p F d) (hF : d.Fine) (off : Int) (n : Nat) (hn : d.bs.length + n ≤ 134217728) (S : ByteArray) :
    Calls Tryz.prog 26 #[.pointer (some ⟨p, 0, none⟩), .agg #[.int .i64 off, .int .i64 (n : Int), .bool false], .string S] w fun e w' => e = .returned (.string S) ∧ Turned w w' p F (d.putF n) := by
  obtain ⟨c, h, hfo⟩ := h
  have hL : d.L.length ≤ 134217728 := by have := tiles_length hF.tiles; have := hF.most; omega
  have k0 : Keeps w (w.alloc (.cells #[.int .i64 off, .int .i64 (n : Int), .bool false] 44)) (fun _ => False) := (Keeps.refl _ _).alloc _
  have hb0 : (w.alloc (.cells #[.int .i64 off, .int .i64 (n : Int), .bool false] 44)).heap[w.heap.size]? = some (.cells #[.int .i64 off, .int .i64 (n : Int), .bool false] 44) := heap_alloc_new _ _
  have hadd := add_any (h.keeps k0 (fun _ _ e => e)) n hn hL
  obtain ⟨c0, c1, c2⟩ := three_cells hb0
  have hlt0 : ∀ k, c.foot p k → k < w.heap.size := fun k hk => h.foot_lt hk
  go_enter Tryz.func26, Tryz.ntmps26
  go_wp2_with fail
  refine hadd.mono ?_
  rintro e w2 ⟨g, v, sp, rfl, h2, k2, hg, hv⟩
  clear hadd
  have hb2 := (k2.block w.heap.size (heap_lt hb0) (fun e => by have := hlt0 _ e; omega)).trans hb0
  obtain ⟨d0, d1, d2⟩ := three_cells hb2
  have hkeys : ∀ x, ((d.added n).fm x).isSome = true → x ∈ (d.added n).L.map (fun y => (y.2 : Int)) := fun x hx => by
    obtain ⟨xs, hx⟩ := Option.isSome_iff_exists.1 hx
    obtain ⟨y, hy, e⟩ := hF.free.size x xs hx
    exact List.mem_map.2 ⟨y, List.mem_append_left _ hy, e.symm⟩
  have hlen : ∀ xs, (d.added n).fm (n : Int) = some xs → xs.length < 134217728 := fun xs hx => by
    have hnd := hF.free.nodup _ xs hx
    have := length_le_of_subset hnd (l := d.begins) (fun z hz => by
      obtain ⟨_, y, hy, e, _⟩ := hF.free.mem _ xs hx z hz
      exact List.mem_map.2 ⟨y, hy, e.symm⟩)
    rw [AD.begins_length] at this
    have h16 := tiles_length hF.tiles
    have := hF.most
    omega
  have hlv := leave_any h2 (d.bs.length : Int) n (by omega) hlen hkeys (by have h16 := tiles_length hF.tiles; have := hF.most; simp [AD.added]; omega)
  clear c0 c1 c2
  go_wp2_with fail
  refine hlv.mono ?_
  rintro e w3 ⟨rfl, c', hA, k3, hf3⟩
  clear hlv
  have hs2 := k2.size
  have hs0 := k0.size
  have hft2 : ∀ k, ({ c with g := g, v := v, sp := sp } : AR).foot p k → F k ∨ w.heap.size ≤ k := by
    intro k hk
    rcases hk with e | e | e | e | e | e | e
    · exact Or.inl (hfo k (Or.inl e))
    · exact Or.inl (hfo k (Or.inr (Or.inl e)))
    · have e' : k = g := e
      rcases hg with hg | hg
      · exact Or.inl (hfo k (Or.inr (Or.inr (Or.inl (e'.trans hg)))))
      · exact Or.inr (by omega)
    · exact Or.inl (hfo k (Or.inr (Or.inr (Or.inr (Or.inl e)))))
    · exact Or.inl (hfo k (Or.inr (Or.inr (Or.inr (Or.inr (Or.inl e))))))
    · have e' : v.ownBlock = some k := e
      rcases hv with hv | ⟨k', hv, hk'⟩
      · exact Or.inl (hfo k (Or.inr (Or.inr (Or.inr (Or.inr (Or.inr (Or.inl (hv ▸ e'))))))))
      · rw [hv] at e'
        cases e'
        exact Or.inr (by omega)
    · exact Or.inl (hfo k (Or.inr (Or.inr (Or.inr (Or.inr (Or.inr (Or.inr e)))))))
  have K : Keeps w w3 F := ((k0.mono (fun _ _ e => e.elim)).trans k2 (fun i _ e => hfo i e)).trans k3 (fun i hi e => by
    rcases hft2 i e with x | x
    · exact x
    · omega)
  have hfin : Turned w w3 p F (d.putF n) := by
    refine ⟨⟨c', hA _ (rising_perm _), fun k hk => ?_⟩, K⟩
    rcases hf3 k hk with x | x
    · exact hft2 k x
    · exact Or.inr (by omega)
  clear hA k3 hf3 h2 k2 h k0
  go_wp2_with fail
  go_ret
  exact ⟨rfl, hfin⟩
end Go.Proofs.YtdlibnjgmdffnaaGreat
/-
  restore: a live part.
-/
namespace Go.Proofs.YtdlibnjgmdffnaaGreat
open Go.RowKit Go.Shelf
set_option linter.unusedVariables false

theorem cut_head (s : ByteArray) (n : Nat) (w : World) (h : n ≤ s.size) : (Instr.slice 9 (.string s) none (some (.int .i64 (n : Int))) none).run Tryz.prog w = .ok (.string (s.extract 0 n)) w := by
  simp [Instr.slice, run_underlying Tryz.underlying9, Instr.sliceBounds, run_sliceBound, h]
theorem cut_tail (s : ByteArray) (n : Nat) (w : World) (h : n ≤ s.size) : (Instr.slice 9 (.string s) (some (.int .i64 (n : Int))) none none).run Tryz.prog w = .ok (.string (s.extract n s.size)) w := by
  simp [Instr.slice, run_underlying Tryz.underlying9, Instr.sliceBounds, run_sliceBound, h]
theorem head_bytes (s : ByteArray) (n : Nat) (h : n ≤ s.size) : (s.extract 0 n).data.toList = s.data.toList.take n ∧ (s.extract 0 n).size = n ∧ (s.data.toList.take n).length = n := by
  have e : (s.extract 0 n).data.toList = s.data.toList.take n := by rw [Lib.extract_data]; simp
  have hz : s.data.toList.length = s.size := by rw [Array.length_toList]; rfl
  refine ⟨e, by rw [ByteArray.size_extract]; omega, by rw [List.length_take, hz]; omega⟩

set_option maxRecDepth 100000 in
set_option maxHeartbeats 4000000 in
theorem restore_live {w : World} {p : Nat} {F : Nat → Prop} {d : AD} (h : Arena w p F d) (hF : d.Fine) (off : Int) (n : Nat) (hn : d.bs.length + n ≤ 134217728) (S : ByteArray) (hS : n ≤ S.size) :
    Calls Tryz.prog 26 #[.pointer (some ⟨p, 0, none⟩), .agg #[.int .i64 off, .int .i64 (n : Int), .bool true], .string S] w fun e w' => e = .returned (.string (S.extract n S.size)) ∧ Turned w w' p F (d.putL n (S.data.toList.take n)) := by
  obtain ⟨c, h, hfo⟩ := h
  have hL : d.L.length ≤ 134217728 := by have := tiles_length hF.tiles; have := hF.most; omega
  have hu : d.used ≤ 134217728 := by have := hF.use; have := hF.lim; omega
  have k0 : Keeps w (w.alloc (.cells #[.int .i64 off, .int .i64 (n : Int), .bool true] 44)) (fun _ => False) := (Keeps.refl _ _).alloc _
  have hb0 : (w.alloc (.cells #[.int .i64 off, .int .i64 (n : Int), .bool true] 44)).heap[w.heap.size]? = some (.cells #[.int .i64 off, .int .i64 (n : Int), .bool true] 44) := heap_alloc_new _ _
  have hadd := add_any (h.keeps k0 (fun _ _ e => e)) n hn hL
  obtain ⟨c0, c1, c2⟩ := three_cells hb0
  have hlt0 : ∀ k, c.foot p k → k < w.heap.size := fun k hk => h.foot_lt hk
  go_enter Tryz.func26, Tryz.ntmps26
  go_wp2_with fail
  refine hadd.mono ?_
  rintro e w2 ⟨g, v, sp, rfl, h2, k2, hg, hv⟩
  clear hadd
  have hb2 := (k2.block w.heap.size (heap_lt hb0) (fun e => by have := hlt0 _ e; omega)).trans hb0
  obtain ⟨d0, d1, d2⟩ := three_cells hb2
  have h2 : ArenaAt w2 p { c with g := g, v := v, sp := sp, nl := d.begins.length } (d.added n) := { h2 with live := h2.live.tight Tryz.underlying3 d.begins (hF.keys_begins) }
  have hE := enter_any h2 d.bs.length n (by omega) (by omega) (by simpa [AD.added] using hu) (by simp [AD.begins_length]; omega)
  clear c0 c1 c2
  have hs2 := k2.size
  have hs0 := k0.size
  have hB : w.heap.size < w2.heap.size := heap_lt hb2
  go_wp2_with fail
  refine hE.mono ?_
  rintro e w3 ⟨rfl, _, k3, hp3, hl3⟩
  clear hE
  have hft2 : ∀ k, ({ c with g := g, v := v, sp := sp, nl := d.begins.length + 1 } : AR).foot p k → F k ∨ w.heap.size < k := by
    intro k hk
    rcases hk with e | e | e | e | e | e | e
    · exact Or.inl (hfo k (Or.inl e))
    · exact Or.inl (hfo k (Or.inr (Or.inl e)))
    · have e' : k = g := e
      rcases hg with hg | hg
      · exact Or.inl (hfo k (Or.inr (Or.inr (Or.inl (e'.trans hg)))))
      · exact Or.inr (by simp at hg; omega)
    · exact Or.inl (hfo k (Or.inr (Or.inr (Or.inr (Or.inl e)))))
    · exact Or.inl (hfo k (Or.inr (Or.inr (Or.inr (Or.inr (Or.inl e))))))
    · have e' : v.ownBlock = some k := e
      rcases hv with hv | ⟨k', hv, hk'⟩
      · exact Or.inl (hfo k (Or.inr (Or.inr (Or.inr (Or.inr (Or.inr (Or.inl (hv ▸ e'))))))))
      · rw [hv] at e'
        cases e'
        exact Or.inr (by simp at hk'; omega)
    · exact Or.inl (hfo k (Or.inr (Or.inr (Or.inr (Or.inr (Or.inr (Or.inr e)))))))
  have hB3 : w3.heap[w.heap.size]? = some (.cells #[.int .i64 off, .int .i64 (n : Int), .bool true] 44) := (k3.block _ hB (fun e => by
    rcases e with e | e
    · have := hlt0 p (Or.inl rfl); omega
    · have := hlt0 c.bl (Or.inr (Or.inr (Or.inr (Or.inl rfl)))); simp at e; omega)).trans hb2
  have h3 : ArenaAt w3 p { c with g := g, v := v, sp := sp, nl := d.begins.length + 1 } (d.took n) := by
    refine ⟨hp3, ?_, ?_, hl3, ?_, h.hlf, ?_⟩
    · exact h2.mem.keeps k3 (fun e => by rcases e with e | e; exact h2.p_b e.symm; exact h2.bl_b e.symm) (fun e => by rcases e with e | e; exact h2.p_g e.symm; exact h2.bl_g e.symm)
    · exact ownsRow_keeps h2.beg k3 (fun k hk e => by rcases e with e | e; exact h2.p_v hk e.symm; exact h2.bl_v hk e.symm)
    · exact h2.free.keeps k3 (fun e => by rcases e with e | e; exact h2.p_bf e.symm; exact h2.hlf e.symm)
    · exact h2.heaps.keeps k3 (fun i hi e => by rcases e with e | e; exact (h2.heap_ne hi).1 e; exact (h2.heap_ne hi).2.2.2.1 e)
  have K3 : Keeps w w3 F := ((k0.mono (fun _ _ e => e.elim)).trans k2 (fun i _ e => hfo i e)).trans k3 (fun i hi e => by
    rcases e with rfl | rfl
    · exact hfo _ (Or.inl rfl)
    · exact hfo _ (Or.inr (Or.inr (Or.inr (Or.inl rfl)))))
  obtain ⟨q1, q2, q3⟩ := head_bytes S n hS
  have hH := fun W => cut_head S n W hS
  have hTl := fun W => cut_tail S n W hS
  obtain ⟨S1, hS1⟩ : ∃ S1, S.extract 0 n = S1 := ⟨_, rfl⟩
  rw [hS1] at hH q1 q2
  obtain ⟨w4, c4, fz, hconv, k4', hs4, hr4⟩ := bytes_of (P := Tryz.prog) w3.drew 9 72 5 S1 Tryz.underlying9 Tryz.underlying72 Tryz.underlying5
  rw [show w3.drew.heap.size = w3.heap.size from rfl] at hconv hs4 hr4
  have k3d : Keeps w3 w3.drew (fun _ => False) := (Keeps.refl w3 _).drew
  have k4 : Keeps w3 w4 (fun _ => False) := k3d.trans k4' (fun _ _ e => e)
  have k5 : Keeps w3 (w4.alloc (.cells #[.slice (some ⟨w3.heap.size, 0, none⟩) S1.size c4] 72)) (fun _ => False) := k4.alloc _
  have hg3 := heap_lt h3.mem.hg
  have hwr := write_one_yes (pb := w4.heap.size) (h := w3.heap.size) (n := S1.size) (c := c4) (o := d.bs.length) (x := S1.data.toList) (h3.mem.keeps k4 id id) hr4 (Nat.ne_of_gt hg3) (by rw [q2, q1, q3]) (by rw [q1, q3]; omega) rfl (by rw [q1, q3, AD.took_bs, List.length_append, zeros_length]; omega)
  have hcell : ∀ W, Keeps w3 W (fun _ => False) → W.cell? ⟨p, 2, none⟩ = some (.pointer (some ⟨c.b, 0, none⟩)) ∧ W.cell? ⟨w.heap.size, 1, none⟩ = some (.int .i64 (n : Int)) := fun W kW => ⟨(h3.keeps kW (fun _ _ e => e)).cell2, (three_cells ((kW.block _ (heap_lt hB3) id).trans hB3)).2.1⟩
  have hcell2 : ∀ W, Keeps w3 W (fun i => i = g) → W.cell? ⟨p, 2, none⟩ = some (.pointer (some ⟨c.b, 0, none⟩)) ∧ W.cell? ⟨w.heap.size, 1, none⟩ = some (.int .i64 (n : Int)) := fun W kW => ⟨(World.cell?_of_block (w := w3) (a := ⟨p, 2, none⟩) (kW.block p (heap_lt h3.hp) h3.p_g)).trans h3.cell2, (three_cells ((kW.block _ (heap_lt hB3) (fun e => by
    have e' : w.heap.size = g := e
    rcases hg with x | x
    · have := hlt0 c.g (Or.inr (Or.inr (Or.inl rfl))); omega
    · simp at x; omega)).trans hB3)).2.1⟩
  have hend : ∀ w5 e, WritePost (w4.alloc (.cells #[.slice (some ⟨w3.heap.size, 0, none⟩) S1.size c4] 72)) c.b g (splice (d.took n).bs d.bs.length S1.data.toList) sp e w5 → Turned w w5 p F (d.putL n (S.data.toList.take n)) := fun w5 e hp => by
    have ht := turned_wrote h3 hft2 k5 hp
    rw [q1] at ht
    have hs3 := K3.size
    refine ⟨ht.1.mono (fun i _ x => ?_), K3.trans ht.2 (fun i hi x => ?_)⟩
    · rcases x with (x | x) | x
      · exact Or.inl x
      · exact Or.inr (by omega)
      · exact Or.inr (by omega)
    · rcases x with x | x
      · exact x
      · omega
  have c33 := hcell w3 (Keeps.refl _ _)
  obtain ⟨cA, cB⟩ := c33
  clear h hfo h2 k2 k3 hp3 hl3 hft2 h3 K3 hb0 hb2 d0 d1 d2 hB3 k0 hr4 hs4 k4' q1 q2 q3 hg3 hv
  go_wp2_with fail
  go_region_held (fun w' => w'.cell? ⟨p, 2, none⟩ = some (.pointer (some ⟨c.b, 0, none⟩)) ∧ w'.cell? ⟨w.heap.size, 1, none⟩ = some (.int .i64 (n : Int))) (first | exact hcell _ k3d | exact hcell _ k4 | exact hcell _ k5 | exact hcell2 _ k6)
    (first
      | (go_at_call 63; refine hwr.mono ?_; intro e w5 hp5; have T1 := hide (hend _ _ hp5); have k6 : Keeps w3 w5 (fun i => i = g) := (k5.mono (fun _ _ e => e.elim)).trans hp5.2.2 (fun _ _ e => e); obtain ⟨rfl, _, _⟩ := hp5))
  all_goals have cB6 := (hcell2 _ k6).2
  all_goals go_wp2_with fail
  all_goals go_ret
  all_goals exact ⟨rfl, T1.out⟩
end Go.Proofs.YtdlibnjgmdffnaaGreat
/-
  What is restored, as data.
-/
namespace Go.Proofs.YtdlibnjgmdffnaaGreat
open Go.RowKit Go.Shelf
set_option linter.unusedVariables false

theorem AD.Fine.lv_end {d : AD} (F : d.Fine) : d.lv (d.bs.length : Int) = none := by
  cases h : d.lv (d.bs.length : Int) with
  | none => rfl
  | some s =>
    obtain ⟨o, n, e, _, hm⟩ := F.live _ _ h
    have := tiles_mem F.tiles hm
    simp at this
    omega
theorem AD.Fine.putF {d : AD} (F : d.Fine) {n : Nat} (h0 : 0 < n) (h1 : d.bs.length + n ≤ 134217728) : (d.putF n).Fine := by
  have hend := F.lv_end
  have hne : ∀ y ∈ d.L, ((y.1 : Nat) : Int) ≠ (d.bs.length : Int) := fun y hy => by
    have := tiles_mem F.tiles hy
    omega
  refine ⟨?_, ?_, ?_, F.lim, F.use, ?_, ?_⟩
  · show Tiles 16 (d.L ++ [(d.bs.length, n)]) (d.bs ++ zeros n).length
    rw [List.length_append, zeros_length]
    exact tiles_snoc F.tiles n h0
  · intro x s hs
    obtain ⟨o, m, e1, e2, hm⟩ := F.live x s hs
    exact ⟨o, m, e1, e2, List.mem_append_left _ hm⟩
  · show (d.bs ++ zeros n).length ≤ _
    rw [List.length_append, zeros_length]
    exact h1
  · show d.used = liveSum (d.L ++ [(d.bs.length, n)]) d.lv
    rw [liveSum_append, liveSum_cons, hend, ← F.sum]
    simp [liveSum]
  · show FreeOK (d.L ++ [(d.bs.length, n)]) d.lv (upd d.fm (n : Int) (some (rising ((d.fm (n : Int)).getD [] ++ [(d.bs.length : Int)]))))
    have hp := rising_perm ((d.fm (n : Int)).getD [] ++ [(d.bs.length : Int)])
    generalize rising ((d.fm (n : Int)).getD [] ++ [(d.bs.length : Int)]) = ys at *
    have hin : ∀ y, y ∈ (d.fm (n : Int)).getD [] → d.lv y = none ∧ ∃ t ∈ d.L, y = (t.1 : Int) ∧ (n : Int) = (t.2 : Int) := fun y hy => by
      cases e : d.fm (n : Int) with
      | none => rw [e] at hy; simp at hy
      | some xs => rw [e] at hy; exact F.free.mem _ xs e y hy
    have hnd : ((d.fm (n : Int)).getD []).Nodup := by
      cases e : d.fm (n : Int) with
      | none => simp
      | some xs => exact F.free.nodup _ xs e
    refine ⟨fun x xs hx => ?_, fun x xs hx => ?_, fun x xs hx y hy => ?_, fun y hy hl => ?_⟩
    · by_cases e : x = (n : Int)
      · subst e
        rw [upd_same] at hx
        cases hx
        refine hp.nodup_iff.2 ?_
        rw [List.nodup_append]
        refine ⟨hnd, by simp, fun a ha b hb e => ?_⟩
        simp at hb
        obtain ⟨_, t, ht, e1, _⟩ := hin a ha
        exact hne t ht (by rw [← e1, e, hb])
      · rw [upd_other _ _ _ _ e] at hx
        exact F.free.nodup x xs hx
    · by_cases e : x = (n : Int)
      · exact ⟨(d.bs.length, n), List.mem_append_right _ (List.mem_singleton.2 rfl), e⟩
      · rw [upd_other _ _ _ _ e] at hx
        obtain ⟨y, hy, e2⟩ := F.free.size x xs hx
        exact ⟨y, List.mem_append_left _ hy, e2⟩
    · by_cases e : x = (n : Int)
      · subst e
        rw [upd_same] at hx
        cases hx
        rcases List.mem_append.1 (hp.mem_iff.1 hy) with h2 | h2
        · obtain ⟨h3, t, ht, h4⟩ := hin y h2
          exact ⟨h3, t, List.mem_append_left _ ht, h4⟩
        · simp at h2
          subst h2
          exact ⟨hend, (d.bs.length, n), List.mem_append_right _ (List.mem_singleton.2 rfl), rfl, rfl⟩
      · rw [upd_other _ _ _ _ e] at hx
        obtain ⟨h2, t, ht, h4⟩ := F.free.mem x xs hx y hy
        exact ⟨h2, t, List.mem_append_left _ ht, h4⟩
    · rcases List.mem_append.1 hy with hy | hy
      · obtain ⟨xs, h2, h3⟩ := F.free.all y hy hl
        by_cases e : ((y.2 : Nat) : Int) = (n : Int)
        · rw [e] at h2 ⊢
          rw [upd_same]
          refine ⟨ys, rfl, hp.mem_iff.2 ?_⟩
          rw [h2]
          simp [h3]
        · rw [upd_other _ _ _ _ e]
          exact ⟨xs, h2, h3⟩
      · rw [List.mem_singleton.1 hy]
        refine ⟨ys, upd_same _ _ _, hp.mem_iff.2 (by simp)⟩
theorem putL_len {d : AD} {n : Nat} {x : List UInt8} (hx : x.length = n) : (splice (d.took n).bs d.bs.length x).length = (d.took n).bs.length := splice_length (by rw [AD.took_bs, List.length_append, zeros_length]; omega)
theorem AD.Fine.putL {d : AD} (F : d.Fine) {n : Nat} (h0 : 0 < n) (h1 : d.bs.length + n ≤ 134217728) (h2 : d.used + n ≤ d.limit) {x : List UInt8} (hx : x.length = n) : (d.putL n x).Fine :=
  (F.took h0 h1 h2).bytes (putL_len hx)
theorem putL_bs {d : AD} {n : Nat} {x : List UInt8} (hx : x.length = n) : (d.putL n x).bs.length = d.bs.length + n := by
  have : (d.putL n x).bs.length = (d.took n).bs.length := putL_len hx
  rw [this, AD.took_bs, List.length_append, zeros_length]

/-- All parts, one behind the other. -/
def restD : AD → List (Int × Int × Bool) → List UInt8 → AD
  | d, [], _ => d
  | d, x :: r, b => if x.2.2 = true then restD (d.putL x.2.1.toNat (b.take x.2.1.toNat)) r (b.drop x.2.1.toNat) else restD (d.putF x.2.1.toNat) r b
theorem restD_snoc : ∀ (l : List (Int × Int × Bool)) (x : Int × Int × Bool) (d : AD) (b : List UInt8), (∀ y ∈ l, 0 ≤ y.2.1) → restD d (l ++ [x]) b = if x.2.2 = true then (restD d l b).putL x.2.1.toNat ((b.drop (sumL l).toNat).take x.2.1.toNat) else (restD d l b).putF x.2.1.toNat
  | [], x, d, b, _ => by simp [restD, sumL]
  | y :: r, x, d, b, h => by
    have hy := h y (List.mem_cons_self ..)
    have hr : ∀ z ∈ r, 0 ≤ z.2.1 := fun z hz => h z (List.mem_cons_of_mem _ hz)
    have hs : 0 ≤ sumL r := by
      clear h hy
      induction r with
      | nil => simp [sumL]
      | cons z q ih =>
        have h1 := ih (fun u hu => hr u (List.mem_cons_of_mem _ hu))
        have h2 := hr z (List.mem_cons_self ..)
        simp only [sumL]
        split <;> omega
    simp only [List.cons_append, restD, sumL]
    by_cases e : y.2.2 = true
    · rw [if_pos e, if_pos e, if_pos e, restD_snoc r x _ _ hr, List.drop_drop]
      have : y.2.1.toNat + (sumL r).toNat = (y.2.1 + sumL r).toNat := by omega
      rw [this]
    · rw [if_neg e, if_neg e, if_neg e, restD_snoc r x _ _ hr, Int.zero_add]

theorem okP.class_le {limit : Nat} {ps : List (Int × Int × Bool)} : ∀ {i : Nat}, i ≤ ps.length → (∀ k, k < i → okP limit ps k) → ∀ c, clsP c (ps.take i) ≤ limit
  | 0, _, _, c => by simp [clsP]
  | i + 1, hi, h, c => by
    have ih := okP.class_le (i := i) (by omega) (fun k hk => h k (by omega)) c
    have h1 := h i (by omega) (by omega)
    by_cases e : ps[i].2.1 = c
    · rw [e] at h1
      exact h1.2.2.2
    · rw [← List.take_append_getElem (by omega : i < ps.length), clsP_snoc, if_neg e]
      omega
def natsP (ps : List (Int × Int × Bool)) : List (Nat × Nat) := ps.map (fun x => (x.1.toNat, x.2.1.toNat))
theorem natsP_sum : ∀ {ps : List (Int × Int × Bool)}, (∀ x ∈ ps, 0 ≤ x.2.1) → sumP ps = (((natsP ps).map Prod.snd).sum : Nat)
  | [], _ => rfl
  | y :: r, h => by
    have ih := natsP_sum (ps := r) (fun x hx => h x (List.mem_cons_of_mem _ hx))
    have hy := h y (List.mem_cons_self ..)
    simp only [sumP, natsP, List.map_cons, List.sum_cons] at ih ⊢
    omega
theorem natsP_class (c : Nat) : ∀ {ps : List (Int × Int × Bool)}, (∀ x ∈ ps, 0 ≤ x.2.1) → clsP (c : Int) ps = (classSum (natsP ps) c : Nat)
  | [], _ => rfl
  | y :: r, h => by
    have ih := natsP_class c (ps := r) (fun x hx => h x (List.mem_cons_of_mem _ hx))
    have hy := h y (List.mem_cons_self ..)
    have e : natsP (y :: r) = (y.1.toNat, y.2.1.toNat) :: natsP r := rfl
    rw [e, classSum_cons]
    simp only [clsP, ih]
    by_cases e1 : y.2.1 = (c : Int)
    · rw [if_pos e1, if_pos (by omega)]
      omega
    · rw [if_neg e1, if_neg (by omega)]
      omega
theorem okP.total {limit : Nat} {ps : List (Int × Int × Bool)} {i : Nat} (hi : i ≤ ps.length) (h : ∀ k, k < i → okP limit ps k) : sumP (ps.take i) ≤ 32 * limit := by
  have hsz := okP.sizes h
  have h1 := natsP_sum (ps := ps.take i) (fun x hx => (hsz x hx).1)
  have h2 : ((natsP (ps.take i)).map Prod.snd).sum ≤ (classList.map (classSum (natsP (ps.take i)))).sum := sizes_le (fun y hy => by
    obtain ⟨x, hx, rfl⟩ := List.mem_map.1 hy
    obtain ⟨j, hj, rfl⟩ := List.getElem_of_mem hx
    rw [List.length_take] at hj
    rw [List.getElem_take]
    obtain ⟨_, a1, a2, _⟩ := h j (by omega) (by omega)
    have hb := classI_bounds ps[j].2.1
    have hz : 1 ≤ ps[j].2.1 ∧ ps[j].2.1 ≤ 1048576 := by
      refine Classical.byContradiction fun hn => a1 ?_
      unfold classI
      rw [if_neg hn]
    have := classI_in ps[j].2.1 hz.1 hz.2
    rw [← a2] at this
    exact this)
  have h3 : (classList.map (classSum (natsP (ps.take i)))).sum ≤ classList.length * limit := sum_le (fun c => by
    have := okP.class_le hi h (c : Int)
    rw [natsP_class c (fun x hx => (hsz x hx).1)] at this
    omega)
  have h4 : classList.length ≤ 32 := by decide
  have h5 := Nat.mul_le_mul_right limit h4
  omega
end Go.Proofs.YtdlibnjgmdffnaaGreat
/-
  Restore, where it is let in.
-/
namespace Go.Proofs.YtdlibnjgmdffnaaGreat
open Go.RowKit Go.Shelf
set_option linter.unusedVariables false

theorem sumL_take {ps : List (Int × Int × Bool)} (h : ∀ x ∈ ps, 0 ≤ x.2.1 ∧ x.2.1 ≤ 1048576) (i : Nat) : 0 ≤ sumL (ps.take i) ∧ sumL (ps.take i) ≤ sumL ps := by
  have e : sumL ps = sumL (ps.take i) + sumL (ps.drop i) := by
    have app : ∀ a b, sumL (a ++ b) = sumL a + sumL b := fun a b => by
      induction a with
      | nil => simp [sumL]
      | cons y r ih => simp only [List.cons_append, sumL, ih]; omega
    rw [← app, List.take_append_drop]
  have h1 := (sumL_bound (m := 1048576) (by omega) (ps.take i) (fun x hx => h x (List.mem_of_mem_take hx))).1
  have h2 := (sumL_bound (m := 1048576) (by omega) (ps.drop i) (fun x hx => h x (List.mem_of_mem_drop hx))).1
  omega
theorem tail_bytes (T : ByteArray) (n : Nat) (h : n ≤ T.size) : (T.extract n T.size).data.toList = T.data.toList.drop n := by
  rw [Lib.extract_data, List.take_of_length_le]
  rw [List.length_drop, Array.length_toList]
  exact Nat.le_refl _
theorem Turned.back {w W W' : World} {p : Nat} {d : AD} (h : Turned W W' p (fun k => w.heap.size ≤ k) d) (k : Keeps w W (fun _ => False)) : Arena W' p (fun k => w.heap.size ≤ k) d ∧ Keeps w W' (fun _ => False) := by
  have hs := k.size
  refine ⟨h.1.mono (fun i _ x => ?_), k.trans h.2 (fun i hi x => by have x' : w.heap.size ≤ i := x; omega)⟩
  rcases x with x | x
  · exact x
  · show w.heap.size ≤ i
    omega
/-- Behind so many parts. -/
structure RestK (limit : Nat) (ps : List (Int × Int × Bool)) (b : List UInt8) (i : Nat) (d : AD) : Prop where
  eq : d = restD (AD.fresh limit) (ps.take i) b
  fine : d.Fine
  limit : d.limit = limit
  used : (d.used : Int) = sumL (ps.take i)
  len : (d.bs.length : Int) = 16 + sumP (ps.take i)
theorem RestK.zero {limit : Nat} (hlim : limit ≤ 2097152) (ps : List (Int × Int × Bool)) (b : List UInt8) : RestK limit ps b 0 (AD.fresh limit) :=
  ⟨by simp [restD], AD.fresh_fine hlim, rfl, rfl, by simp [AD.fresh, zeros_length, sumP]⟩
theorem okP.pos {limit : Int} {ps : List (Int × Int × Bool)} {k : Nat} (h : okP limit ps k) (hk : k < ps.length) : 1 ≤ ps[k].2.1 := by
  obtain ⟨_, h1, h2, _⟩ := h hk
  refine Classical.byContradiction fun hn => h1 ?_
  unfold classI
  rw [if_neg (by omega)]
theorem RestK.next {limit : Nat} (hlim : limit ≤ 2097152) {ps : List (Int × Int × Bool)} {b : List UInt8} {i : Nat} {d : AD} (h : RestK limit ps b i d) (hok : ∀ k, okP limit ps k) (hb : (b.length : Int) = sumL ps) (hle : sumL ps ≤ limit) (hi : i < ps.length) :
    d.bs.length + ps[i].2.1.toNat ≤ 134217728 ∧ (ps[i].2.2 = true → ps[i].2.1.toNat ≤ b.length - d.used ∧ RestK limit ps b (i + 1) (d.putL ps[i].2.1.toNat ((b.drop d.used).take ps[i].2.1.toNat))) ∧ (ps[i].2.2 = false → RestK limit ps b (i + 1) (d.putF ps[i].2.1.toNat)) := by
  have hall : ∀ x ∈ ps, 0 ≤ x.2.1 ∧ x.2.1 ≤ 1048576 := fun x hx => by
    obtain ⟨j, hj, rfl⟩ := List.getElem_of_mem hx
    exact (hok j).size hj
  have hsn : ps.take (i + 1) = ps.take i ++ [ps[i]] := (List.take_append_getElem hi).symm
  have hT := okP.total (i := i + 1) (by omega) (fun k _ => hok k)
  have hp := (hok i).pos hi
  have hsz := (hok i).size hi
  have e1 := sumP_snoc (ps.take i) ps[i]
  have e2 := sumL_snoc (ps.take i) ps[i]
  rw [← hsn] at e1 e2
  have hL := sumL_take hall (i + 1)
  have h0 := h.len
  have hu := h.used
  have hroom : d.bs.length + ps[i].2.1.toNat ≤ 134217728 := by omega
  have hru : (sumL (ps.take i)).toNat = d.used := by omega
  have hrs := restD_snoc (ps.take i) ps[i] (AD.fresh limit) b (fun y hy => (hall y (List.mem_of_mem_take hy)).1)
  rw [← hsn, hru, ← h.eq] at hrs
  refine ⟨hroom, fun hlv => ?_, fun hlv => ?_⟩
  · rw [if_pos hlv] at e2 hrs
    have hbl : ps[i].2.1.toNat ≤ b.length - d.used := by omega
    have hx : ((b.drop d.used).take ps[i].2.1.toNat).length = ps[i].2.1.toNat := by rw [List.length_take, List.length_drop]; omega
    refine ⟨hbl, hrs.symm, h.fine.putL (by omega) hroom (by have := h.limit; omega) hx, h.limit, ?_, ?_⟩
    · show ((d.used + ps[i].2.1.toNat : Nat) : Int) = _
      omega
    · rw [putL_bs hx]
      omega
  · rw [if_neg (by rw [hlv]; simp)] at e2 hrs
    refine ⟨hrs.symm, h.fine.putF (by omega) hroom, h.limit, ?_, ?_⟩
    · show (d.used : Int) = _
      omega
    · show (((d.bs ++ zeros ps[i].2.1.toNat).length : Nat) : Int) = _
      rw [List.length_append, zeros_length]
      omega

def RestPost (w : World) (d : AD) (e : Ending) (w' : World) : Prop := ∃ p, e = .returned (.tuple #[.pointer (some ⟨p, 0, none⟩), .int .i64 0]) ∧ Arena w' p (fun k => w.heap.size ≤ k) d ∧ Keeps w w' (fun _ => False)

set_option maxRecDepth 100000 in
set_option maxHeartbeats 4000000 in
theorem restoreAll_yes (limit : Nat) (hlim : limit ≤ 2097152) (a : Option Addr) (ca : Nat) (ps : List (Int × Int × Bool)) (w : World) (hl : ps.length ≤ 134217728) (h1 : PartsIn w a ps) (hok : ∀ k, okP limit ps k) (S : ByteArray) (hS : (S.size : Int) = sumL ps) (hle : sumL ps ≤ limit) :
    Calls Tryz.prog 11 #[.int .i64 (limit : Int), .slice a ps.length ca, .string S] w fun e w' => RestPost w (restD (AD.fresh limit) ps S.data.toList) e w' := by
  have hall : ∀ x ∈ ps, 0 ≤ x.2.1 ∧ x.2.1 ≤ 1048576 := fun x hx => by
    obtain ⟨j, hj, rfl⟩ := List.getElem_of_mem hx
    exact (hok j).size hj
  have hN := anew_yes limit w hlim
  have hP := fun W k => possible_any limit hlim a ca ps W hl (h1.keeps (w' := W) k)
  have hB := fun W k => liveBytes_any a ca ps W hl hall (h1.keeps (w' := W) k)
  have hb : ((S.data.toList.length : Nat) : Int) = sumL ps := by rw [← hS, Array.length_toList]; rfl
  have hz := RestK.zero hlim ps S.data.toList
  have hnx := fun {i : Nat} {d : AD} (h : RestK limit ps S.data.toList i d) (hi : i < ps.length) => h.next hlim hok hb hle hi
  have hlast : Hid (∀ d, RestK limit ps S.data.toList ps.length d → d = restD (AD.fresh limit) ps S.data.toList) := fun d h => by
    have := h.eq
    rwa [List.take_length] at this
  have hzero : 0 ≤ sumL ps := by have := (sumL_take hall 0).2; simpa [sumL] using this
  have hle' : ¬ (limit : Int) < sumL ps := by omega
  have HS := hide hS
  go_enter Tryz.func11, Tryz.ntmps11
  go_wp2_with fail
  refine hN.mono ?_
  rintro e w1 ⟨p, rfl, hA, k1⟩
  clear hN
  go_wp2_with fail
  refine (hP _ k1).mono ?_
  rintro e w2 ⟨t, rfl, ht, k2⟩
  obtain rfl : t = true := ht.2 hok
  have k2' := k1.trans k2 (fun _ _ e => e)
  have hA2 := hA.keeps k2 (fun _ _ _ e => e)
  clear hP ht
  go_wp2_with fail
  refine (hB _ k2').mono ?_
  rintro e w3 ⟨rfl, k3⟩
  have k3' := k2'.trans k3 (fun _ _ e => e)
  have hA3 := hA2.keeps k3 (fun _ _ _ e => e)
  clear hB hA hA2 k1 k2 k3 k2'
  rw [← hS] at hle' ⊢
  go_wp2_with fail
  go_loopw [2, 36] (fun vb vi wr => ∃ (i : Nat) (d : AD) (T : ByteArray), vb = .string T ∧ vi = .int .i64 (i : Int) ∧ i ≤ ps.length ∧ RestK limit ps S.data.toList i d ∧ T.data.toList = S.data.toList.drop d.used ∧ Arena wr p (fun k => w.heap.size ≤ k) d ∧ Keeps w wr (fun _ => False)) (fun _ vi _ => ps.length - (intOf vi).toNat)
  case atStart => exact ⟨0, AD.fresh limit, S, rfl, rfl, Nat.zero_le _, hz, rfl, hA3, k3'⟩
  case round =>
    clear hz hA3 k3'
    obtain ⟨i, d, T, rfl, rfl, hi, hR, hT, hA, kr⟩ := hrel
    by_cases hlt : i < ps.length
    · rcases h1 with rfl | ⟨b1, o1, rfl, hc⟩
      · simp at hlt
      obtain ⟨x1, x2, x3⟩ := hc i hlt
      replace x1 := kr.cellK x1
      replace x2 := kr.cellK x2
      replace x3 := kr.cellK x3
      have hlt' : (i : Int) < (ps.length : Int) := by omega
      obtain ⟨n1, n2, n3⟩ := hnx hR hlt
      have hsz := hall _ (List.getElem_mem hlt)
      have hF := hR.fine
      have hTs : T.size = S.data.toList.length - d.used := by
        have : T.data.toList.length = T.size := by rw [Array.length_toList]; rfl
        rw [← this, hT, List.length_drop]
      clear hc hnx hok hall hR
      generalize ps[i].1 = y1 at *
      generalize ps[i].2.1 = y2 at *
      generalize ps[i].2.2 = y3 at *
      obtain ⟨n, rfl⟩ := Int.eq_ofNat_of_zero_le hsz.1
      rw [Int.toNat_natCast] at n1 n2 n3
      have kA : Keeps w (wr.alloc (.cells #[.int .i64 y1, .int .i64 (n : Int), .bool y3] 44)) (fun _ => False) := kr.alloc _
      have hA1 : Arena (wr.alloc (.cells #[.int .i64 y1, .int .i64 (n : Int), .bool y3] 44)) p (fun k => w.heap.size ≤ k) d := hA.keeps ((Keeps.refl wr (fun _ => False)).alloc _) (fun _ _ _ e => e)
      cases y3 with
      | true =>
        obtain ⟨n4, n5⟩ := n2 rfl
        rw [← hT] at n5
        have hn : n ≤ T.size := by omega
        have hr := restore_live hA1 hF y1 n n1 T hn
        have hT' : (T.extract n T.size).data.toList = S.data.toList.drop (d.putL n (T.data.toList.take n)).used := by
          rw [tail_bytes T n hn, hT, List.drop_drop]
          rfl
        have HT := hide hT'
        have N5 := hide n5
        clear n2 n3 n4 n5 hT hT' hA hA1 hTs
        go_wp2_with fail
        refine hr.mono ?_
        rintro e w5 ⟨rfl, ht⟩
        obtain ⟨a5, k5⟩ := ht.back kA
        clear hr ht
        go_wp2_with fail
        go_roundw
        case rel => exact ⟨i + 1, _, _, rfl, by go_num, by omega, N5.out, HT.out, a5, k5⟩
        case measure => simp [intOf]; omega
      | false =>
        have n5 := n3 rfl
        have hr := restore_free hA1 hF y1 n n1 T
        have HT : Hid (T.data.toList = S.data.toList.drop (d.putF n).used) := hT
        have N5 := hide n5
        clear n2 n3 n5 hT hA hA1
        go_wp2_with fail
        refine hr.mono ?_
        rintro e w5 ⟨rfl, ht⟩
        obtain ⟨a5, k5⟩ := ht.back kA
        clear hr ht
        go_wp2_with fail
        go_roundw
        case rel => exact ⟨i + 1, _, _, rfl, by go_num, by omega, N5.out, HT.out, a5, k5⟩
        case measure => simp [intOf]; omega
    · have hlt' : ¬ (i : Int) < (ps.length : Int) := by omega
      obtain rfl : i = ps.length := by omega
      have hd := hlast.out d hR
      subst hd
      clear hnx hlast hR h1 hall hok
      go_wp2_with fail
      go_ret2
      exact ⟨p, rfl, hA, kr⟩
end Go.Proofs.YtdlibnjgmdffnaaGreat
/-
  Restore, where it is refused.
-/
namespace Go.Proofs.YtdlibnjgmdffnaaGreat
open Go.RowKit Go.Shelf
set_option linter.unusedVariables false

def NoPost (w : World) (x : Int) (e : Ending) (w' : World) : Prop := e = .returned (.tuple #[.pointer none, .int .i64 x]) ∧ Keeps w w' (fun _ => False)

set_option maxRecDepth 100000 in
set_option maxHeartbeats 1000000 in
theorem restore_limit (n : Int) (h : n < 0 ∨ 2097152 < n) (v S : Value) (w : World) :
    Calls Tryz.prog 11 #[.int .i64 n, v, S] w fun e w' => NoPost w 20 e w' := by
  have hN := anew_no n w h
  go_enter Tryz.func11, Tryz.ntmps11
  go_wp2_with fail
  refine hN.mono ?_
  rintro e w1 ⟨rfl, rfl⟩
  go_wp2_with fail
  go_ret2
  exact ⟨rfl, Keeps.refl _ _⟩

set_option maxRecDepth 100000 in
set_option maxHeartbeats 1000000 in
theorem restore_parts (limit : Nat) (hlim : limit ≤ 2097152) (a : Option Addr) (ca : Nat) (ps : List (Int × Int × Bool)) (w : World) (hl : ps.length ≤ 134217728) (h1 : PartsIn w a ps) (hok : ¬ ∀ k, okP limit ps k) (S : ByteArray) :
    Calls Tryz.prog 11 #[.int .i64 (limit : Int), .slice a ps.length ca, .string S] w fun e w' => NoPost w 25 e w' := by
  have hN := anew_yes limit w hlim
  have hP := fun W k => possible_any limit hlim a ca ps W hl (h1.keeps (w' := W) k)
  go_enter Tryz.func11, Tryz.ntmps11
  go_wp2_with fail
  (with_reducible refine hN.mono ?_)
  rintro e w1 ⟨p, rfl, hA, k1⟩
  clear hN
  go_wp2_with fail
  (with_reducible refine (hP _ k1).mono ?_)
  rintro e w2 ⟨t, rfl, ht, k2⟩
  obtain rfl : t = false := by
    cases t
    · rfl
    · exact absurd (ht.1 rfl) hok
  have k2' := k1.trans k2 (fun _ _ e => e)
  clear hP ht hA k1 k2
  go_wp2_with fail
  go_ret2
  exact ⟨rfl, k2'⟩

set_option maxRecDepth 100000 in
set_option maxHeartbeats 2000000 in
theorem restore_bytes (limit : Nat) (hlim : limit ≤ 2097152) (a : Option Addr) (ca : Nat) (ps : List (Int × Int × Bool)) (w : World) (hl : ps.length ≤ 134217728) (h1 : PartsIn w a ps) (hok : ∀ k, okP limit ps k) (S : ByteArray) (hbad : ¬ ((S.size : Int) = sumL ps ∧ sumL ps ≤ limit)) (x : Int) (hx : Hid (x = if (S.size : Int) = sumL ps then 22 else 26)) :
    Calls Tryz.prog 11 #[.int .i64 (limit : Int), .slice a ps.length ca, .string S] w fun e w' => NoPost w x e w' := by
  have hall : ∀ x ∈ ps, 0 ≤ x.2.1 ∧ x.2.1 ≤ 1048576 := fun x hx => by
    obtain ⟨j, hj, rfl⟩ := List.getElem_of_mem hx
    exact (hok j).size hj
  have hN := anew_yes limit w hlim
  have hP := fun W k => possible_any limit hlim a ca ps W hl (h1.keeps (w' := W) k)
  have hB := fun W k => liveBytes_any a ca ps W hl hall (h1.keeps (w' := W) k)
  go_enter Tryz.func11, Tryz.ntmps11
  go_wp2_with fail
  (with_reducible refine hN.mono ?_)
  rintro e w1 ⟨p, rfl, hA, k1⟩
  clear hN
  go_wp2_with fail
  (with_reducible refine (hP _ k1).mono ?_)
  rintro e w2 ⟨t, rfl, ht, k2⟩
  obtain rfl : t = true := ht.2 hok
  have k2' := k1.trans k2 (fun _ _ e => e)
  clear hP ht
  go_wp2_with fail
  (with_reducible refine (hB _ k2').mono ?_)
  rintro e w3 ⟨rfl, k3⟩
  have k3' := k2'.trans k3 (fun _ _ e => e)
  clear hB hA k1 k2 k3 k2' hok hall h1
  generalize sumL ps = M at *
  by_cases e1 : (S.size : Int) = M
  · have e2 : (limit : Int) < M := by omega
    obtain rfl : x = 22 := by have := hx.out; rwa [if_pos e1] at this
    rw [← e1] at e2 ⊢
    clear hbad e1 hx
    go_wp2_with fail
    go_ret2
    exact ⟨rfl, k3'⟩
  · obtain rfl : x = 26 := by have := hx.out; rwa [if_neg e1] at this
    have e3 : ((S.size : Int) != M) = true := by simpa using e1
    clear hbad hx
    go_wp2_with fail
    go_ret2
    exact ⟨rfl, k3'⟩
end Go.Proofs.YtdlibnjgmdffnaaGreat
/-
  The document's Restore: inClass, rowed.
-/
namespace Go.Proofs.YtdlibnjgmdffnaaGreat
open Go.RowKit Go.Shelf
set_option linter.unusedVariables false

set_option maxRecDepth 100000 in
set_option maxHeartbeats 2000000 in
theorem inClass_any (a : Option Addr) (ca : Nat) (ps : List (Int × Int × Bool)) (n : Nat) (c : Int) (w : World) (hn : n ≤ ps.length) (hl : ps.length ≤ 134217728) (hc : 1 ≤ c ∧ c ≤ 1048576) (h1 : PartsIn w a ps) :
    Calls Tryz.prog 65 #[.slice a n ca, .int .i64 c] w fun e w' => e = .returned (.int .i64 (clsP c (ps.take n))) ∧ w' = w := by
  have hb : ∀ k, 0 ≤ clsP c (ps.take k) ∧ clsP c (ps.take k) ≤ 1048576 * (k : Int) := fun k => by
    induction k with
    | zero => simp [clsP]
    | succ k ih =>
      by_cases hk : k < ps.length
      · rw [List.take_succ_eq_append_getElem hk, clsP_snoc]
        split <;> omega
      · rw [List.take_of_length_le (by omega)] at ih ⊢
        omega
  have HB := hide hb
  have H1 := hide h1
  clear hb h1
  go_enter Tryz.func65, Tryz.ntmps65
  go_wp2_with fail
  go_loopw [5, 6] (fun s i wr => ∃ k : Nat, k ≤ n ∧ i = .int .i64 (k : Int) ∧ s = .int .i64 (clsP c (ps.take k)) ∧ w = wr) (fun _ i _ => n - (intOf i).toNat)
  case atStart => exact ⟨0, Nat.zero_le _, rfl, rfl, rfl⟩
  case round =>
    obtain ⟨k, hk, rfl, rfl, rfl⟩ := hrel
    by_cases hlt : k < n
    · have hkl : k < ps.length := by omega
      rcases H1.out with e | ⟨b, o, rfl, hcell⟩
      · rw [e] at hkl
        simp at hkl
      obtain ⟨x0, x1, x2⟩ := hcell k hkl
      have hlt' : (k : Int) < (n : Int) := by omega
      have hbk := HB.out k
      have e1 : clsP c (ps.take (k + 1)) = clsP c (ps.take k) + (if ps[k].2.1 = c then ps[k].2.1 else 0) := by rw [List.take_succ_eq_append_getElem hkl, clsP_snoc]
      have E1 := hide e1
      clear hcell H1 HB e1
      by_cases hcc : ps[k].2.1 = c
      · have hq : (ps[k].2.1 == c) = true := by simpa using hcc
        have E2 : Hid (clsP c (ps.take (k + 1)) = clsP c (ps.take k) + c) := (show _ = _ by rw [E1.out, if_pos hcc, hcc])
        clear E1 hcc
        generalize clsP c (ps.take k) = z at *
        generalize ps[k].2.1 = y at *
        have hz : z + c ≤ 9223372036854775807 := by omega
        have hz0 : 0 ≤ z + c := by omega
        go_wp2_with fail
        go_roundw
        case rel => exact ⟨k + 1, by omega, by go_num, by rw [E2.out], by trivial⟩
        case measure => simp [intOf]; omega
      · have hq : (ps[k].2.1 == c) = false := beq_eq_false_iff_ne.2 hcc
        have E2 : Hid (clsP c (ps.take (k + 1)) = clsP c (ps.take k)) := (show _ = _ by rw [E1.out, if_neg hcc]; omega)
        clear E1 hcc
        generalize clsP c (ps.take k) = z at *
        generalize ps[k].2.1 = y at *
        go_wp2_with fail
        go_roundw
        case rel => exact ⟨k + 1, by omega, by go_num, by rw [E2.out], by trivial⟩
        case measure => simp [intOf]; omega
    · obtain rfl : k = n := by omega
      have hlt' : ¬ (k : Int) < (k : Int) := by omega
      clear H1 HB
      go_wp2_with fail
      go_ret
      exact ⟨rfl, rfl⟩
end Go.Proofs.YtdlibnjgmdffnaaGreat
