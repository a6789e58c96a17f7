import Derived.Deep.QuietTactic
import Derived.BigQuiet
import Derived.Shelf.Abstract
import Derived.RegionTactic
import Derived.Deep.RegionLaw
import Derived.Deep.AppendLies
import Derived.WalkSmall
import Derived.Test.YtdlibnjgmdffnaaGreatRows
import Derived.RangeFuncBox
import Derived.RangeFuncLeaves
import Derived.RangeFuncWrites
import Derived.WalkKit
import Derived.OwnWalkIn
import Derived.TacticsInMore
import Derived.LoopNIn
import Derived.LoopIn
import Derived.Maps.AppendAt
import Derived.Shelf.Strings.Builder1
import Derived.Shelf.Sort.Plain
import Derived.Shelf.Slices.In.SortNone
import Derived.Test.YtdlibnjgmdffnaaGreatProg
import Derived.Test.YtdlibnjgmdffnaaGreatFn4
namespace Go.Proofs.YtdlibnjgmdffnaaGreat
open Go.RowKit Go.Shelf

def ErrPost (w : World) (p : Nat) (F : Nat → Prop) (x : Int) (d' : AD) (e : Ending) (w' : World) : Prop := e = .returned (.int .i64 x) ∧ Turned w w' p F d'
theorem turned_wrote {w w1 w2 : World} {p : Nat} {F : Nat → Prop} {c : AR} {d : AD} (h : ArenaAt w p c d) (hfo : ∀ k, c.foot p k → F k) (k1 : Keeps w w1 (fun _ => False)) {bs : List UInt8} {e : Ending} {y : Int} (hw : e = .returned (.int .i64 y) ∧ MemAt 88 5 w2 c.b c.g bs c.sp ∧ Keeps w1 w2 (fun i => i = c.g)) : Turned w w2 p F (d.bytes bs) :=
  ⟨⟨c, (h.keeps k1 (fun _ _ e => e)).wrote hw.2.1 hw.2.2, fun k hk => Or.inl (hfo k hk)⟩, (k1.mono (fun _ _ e => e.elim)).trans hw.2.2 (fun i _ e => hfo i (Or.inr (Or.inr (Or.inl e))))⟩

def storeR (d : AD) (off n : Int) (v : Nat) : Int × AD := if widthB n then (if d.goodB off n then (0, d.bytes (splice d.bs off.toNat (leBytes v n.toNat))) else (24, d)) else (10, d)
def fillR (d : AD) (off n : Int) (u : UInt8) : Int × AD := if d.goodB off n then (0, d.bytes (splice d.bs off.toNat (same n.toNat u))) else (24, d)
def copyR (d : AD) (x y n : Int) : Int × AD := if d.goodB x n && d.goodB y n then (0, d.bytes (splice d.bs x.toNat ((d.bs.drop y.toNat).take n.toNat))) else (24, d)

set_option maxHeartbeats 1000000 in
theorem astore_any {w : World} {p : Nat} {F : Nat → Prop} {d : AD} (hA : Arena w p F d) (hF : d.Fine) (off n : Int) (v : Nat) (ho : fitsI off) (hn : fitsI n) :
    Calls Tryz.prog 48 #[.pointer (some ⟨p, 0, none⟩), .int .i64 off, .int .i64 n, .int .u64 (v : Int)] w fun e w' => ErrPost w p F (storeR d off n v).1 (storeR d off n v).2 e w' := by
  obtain ⟨c, h, hfo⟩ := hA.at
  unfold storeR
  cases hw : widthB n
  · have hN := anum_width w (.pointer (some ⟨p, 0, none⟩)) off n hw
    simp only [Bool.false_eq_true, if_false]
    clear h hF
    go_enter Tryz.func48, Tryz.ntmps48
    go_wp2_with fail
    refine hN.mono ?_
    rintro e w1 ⟨rfl, k1⟩
    have T1 := hide (hA.same k1)
    clear hN k1 hA
    go_wp2_with fail
    go_ret
    exact ⟨rfl, T1.out⟩
  · have hN := anum_good w _ off n _ hw (good_any h hF off n ho hn)
    cases hg : d.goodB off n
    · rw [hg] at hN
      simp only [Bool.false_eq_true, if_false, if_true] at hN ⊢
      clear h hF
      go_enter Tryz.func48, Tryz.ntmps48
      go_wp2_with fail
      refine hN.mono ?_
      rintro e w1 ⟨rfl, k1⟩
      have T1 := hide (hA.same k1)
      clear hN k1 hA
      go_wp2_with fail
      go_ret
      exact ⟨rfl, T1.out⟩
    · rw [hg] at hN
      obtain ⟨o, k, rfl, rfl, ho16, hok⟩ := hF.span hg
      simp only [if_true, Int.toNat_natCast] at hN ⊢
      have hst := fun W (kW : Keeps w W (fun _ => False)) => store_yes W c.b c.g d.bs c.sp (h.mem.keeps kW id id) o k v hw hok
      have hc2 := fun W (kW : Keeps w W (fun _ => False)) => (h.keeps kW (fun _ _ e => e)).cell2
      clear hF hg hA
      go_enter Tryz.func48, Tryz.ntmps48
      go_wp2_with fail
      refine hN.mono ?_
      rintro e w1 ⟨rfl, k1⟩
      replace hst := hst w1 k1
      replace hc2 := hc2 w1 k1
      clear hN
      go_wp2_with fail
      refine hst.mono ?_
      intro e w2 hp
      have T1 := hide (turned_wrote h hfo k1 hp)
      obtain ⟨rfl, _, _⟩ := hp
      clear hst h k1
      go_wp2_with fail
      go_ret
      exact ⟨rfl, T1.out⟩

set_option maxHeartbeats 1000000 in
theorem afill_any {w : World} {p : Nat} {F : Nat → Prop} {d : AD} (hA : Arena w p F d) (hF : d.Fine) (off n : Int) (u : UInt8) (ho : fitsI off) (hn : fitsI n) :
    Calls Tryz.prog 50 #[.pointer (some ⟨p, 0, none⟩), .int .i64 off, .int .i64 n, .int .u8 (u.toNat : Int)] w fun e w' => ErrPost w p F (fillR d off n u).1 (fillR d off n u).2 e w' := by
  obtain ⟨c, h, hfo⟩ := hA.at
  have hN := good_any h hF off n ho hn
  unfold fillR
  cases hg : d.goodB off n
  · rw [hg] at hN
    simp only [Bool.false_eq_true, if_false]
    clear h hF
    go_enter Tryz.func50, Tryz.ntmps50
    go_wp2_with fail
    refine hN.mono ?_
    rintro e w1 ⟨rfl, k1⟩
    have T1 := hide (hA.same k1)
    clear hN k1 hA
    go_wp2_with fail
    go_ret
    exact ⟨rfl, T1.out⟩
  · rw [hg] at hN
    obtain ⟨o, k, rfl, rfl, ho16, hok⟩ := hF.span hg
    simp only [if_true, Int.toNat_natCast]
    have hst := fun W (kW : Keeps w W (fun _ => False)) => fill_yes W c.b c.g d.bs c.sp (h.mem.keeps kW id id) o k hok u
    have hc2 := fun W (kW : Keeps w W (fun _ => False)) => (h.keeps kW (fun _ _ e => e)).cell2
    clear hF hg hA
    go_enter Tryz.func50, Tryz.ntmps50
    go_wp2_with fail
    refine hN.mono ?_
    rintro e w1 ⟨rfl, k1⟩
    replace hst := hst w1 k1
    replace hc2 := hc2 w1 k1
    clear hN
    go_wp2_with fail
    refine hst.mono ?_
    intro e w2 hp
    have T1 := hide (turned_wrote h hfo k1 hp)
    obtain ⟨rfl, _, _⟩ := hp
    clear hst h k1
    go_wp2_with fail
    go_ret
    exact ⟨rfl, T1.out⟩

set_option maxHeartbeats 1000000 in
theorem acopy_any {w : World} {p : Nat} {F : Nat → Prop} {d : AD} (hA : Arena w p F d) (hF : d.Fine) (x y n : Int) (hx : fitsI x) (hy : fitsI y) (hn : fitsI n) :
    Calls Tryz.prog 52 #[.pointer (some ⟨p, 0, none⟩), .int .i64 x, .int .i64 y, .int .i64 n] w fun e w' => ErrPost w p F (copyR d x y n).1 (copyR d x y n).2 e w' := by
  obtain ⟨c, h, hfo⟩ := hA.at
  have hN := good_any h hF x n hx hn
  have hM := fun W (kW : Keeps w W (fun _ => False)) => good_any (h.keeps kW (fun _ _ e => e)) hF y n hy hn
  unfold copyR
  cases hg : d.goodB x n
  · rw [hg] at hN
    simp only [Bool.false_and, Bool.false_eq_true, if_false]
    clear h hF hM
    go_enter Tryz.func52, Tryz.ntmps52
    go_wp2_with fail
    refine hN.mono ?_
    rintro e w1 ⟨rfl, k1⟩
    have T1 := hide (hA.same k1)
    clear hN k1 hA
    go_wp2_with fail
    go_ret
    exact ⟨rfl, T1.out⟩
  · rw [hg] at hN
    cases hg2 : d.goodB y n
    · rw [hg2] at hM
      simp only [Bool.and_false, Bool.false_eq_true, if_false]
      clear h hF
      go_enter Tryz.func52, Tryz.ntmps52
      go_wp2_with fail
      refine hN.mono ?_
      rintro e w1 ⟨rfl, k1⟩
      replace hM := hM w1 k1
      clear hN
      go_wp2_with fail
      refine hM.mono ?_
      rintro e w2 ⟨rfl, k2⟩
      have T1 := hide (hA.same (k1.trans k2 (fun _ _ e => e)))
      clear hM k1 k2 hA
      go_wp2_with fail
      go_ret
      exact ⟨rfl, T1.out⟩
    · rw [hg2] at hM
      obtain ⟨o, k, rfl, rfl, ho16, hok⟩ := hF.span hg
      obtain ⟨o2, k', rfl, hkk, _, hok2⟩ := hF.span hg2
      obtain rfl : k = k' := by omega
      simp only [Bool.and_self, if_true, Int.toNat_natCast]
      have hst := fun W (kW : Keeps w W (fun _ => False)) => copy_yes W c.b c.g d.bs c.sp (h.mem.keeps kW id id) o o2 k hok hok2
      have hc2 := fun W (kW : Keeps w W (fun _ => False)) => (h.keeps kW (fun _ _ e => e)).cell2
      clear hF hg hg2 hA hkk
      go_enter Tryz.func52, Tryz.ntmps52
      go_wp2_with fail
      refine hN.mono ?_
      rintro e w1 ⟨rfl, k1⟩
      replace hM := hM w1 k1
      clear hN
      go_wp2_with fail
      refine hM.mono ?_
      rintro e w2 ⟨rfl, k2⟩
      replace k1 := k1.trans k2 (fun _ _ e => e)
      replace hst := hst w2 k1
      replace hc2 := hc2 w2 k1
      clear hM k2
      go_wp2_with fail
      refine hst.mono ?_
      intro e w3 hp
      have T1 := hide (turned_wrote h hfo k1 hp)
      obtain ⟨rfl, _, _⟩ := hp
      clear hst h k1
      go_wp2_with fail
      go_ret
      exact ⟨rfl, T1.out⟩
end Go.Proofs.YtdlibnjgmdffnaaGreat
/-
  What the methods of a heap of offsets do.
-/
namespace Go.Proofs.YtdlibnjgmdffnaaGreat
open Go.RowKit Go.Shelf

theorem low_len {w : World} {hb : Nat} {v : Value} {xs : List Int} (h : HeapAt w hb v xs) :
    Calls Tryz.prog 109 #[.pointer (some ⟨hb, 0, none⟩)] w fun e w' => e = .returned (.int .i64 (xs.length : Int)) ∧ w' = w := by
  have c0 := h.cell
  rcases Go.Joins.ownsRow_forms h.row with ⟨hv, hn⟩ | ⟨g, cap, hv⟩
  · subst hv
    rw [hn]
    clear h
    go_enter Tryz.func109, Tryz.ntmps109
    go_wp2
    go_ret
    exact ⟨rfl, rfl⟩
  · subst hv
    clear h
    go_enter Tryz.func109, Tryz.ntmps109
    go_wp2
    go_ret
    exact ⟨rfl, rfl⟩

set_option maxHeartbeats 1000000 in
theorem low_less {w : World} {hb : Nat} {v : Value} {xs : List Int} (h : HeapAt w hb v xs) (i j : Nat) (hi : i < xs.length) (hj : j < xs.length) (hl : xs.length ≤ 134217728) :
    Calls Tryz.prog 153 #[.pointer (some ⟨hb, 0, none⟩), .int .i64 (i : Int), .int .i64 (j : Int)] w fun e w' => e = .returned (.bool (decide (at0 xs i < at0 xs j))) ∧ ∃ q, w' = w.drewN q := by
  have c0 := h.cell
  obtain ⟨g, cap, rfl, _, _, hc, _⟩ := h.form (by omega)
  have ci := hc i hi
  have cj := hc j hj
  clear h hc
  go_enter Tryz.func153, Tryz.ntmps153
  go_wp2
  go_quiet (fail)
  go_wp2
  go_ret
  exact ⟨rfl, nq, rfl⟩
end Go.Proofs.YtdlibnjgmdffnaaGreat
namespace Go.Proofs.YtdlibnjgmdffnaaGreat
open Go.RowKit Go.Shelf

def SwapPost (w : World) (hb : Nat) (v : Value) (xs : List Int) (e : Ending) (w' : World) : Prop := e = .returned (.tuple #[]) ∧ HeapAt w' hb v xs ∧ Keeps w w' (fun k => v.ownBlock = some k)

set_option maxHeartbeats 2000000 in
theorem low_swap {w : World} {hb : Nat} {v : Value} {xs : List Int} (h : HeapAt w hb v xs) (i j : Nat) (hi : i < xs.length) (hj : j < xs.length) (hl : xs.length ≤ 134217728) :
    Calls Tryz.prog 156 #[.pointer (some ⟨hb, 0, none⟩), .int .i64 (i : Int), .int .i64 (j : Int)] w fun e w' => SwapPost w hb v (sw xs i j) e w' := by
  have c0 := h.cell
  obtain ⟨g, cap, rfl, _, _, hc, hf⟩ := h.form (by omega)
  have ci := hc i hi
  have cj := hc j hj
  have fi := hf i
  have fj := hf j
  obtain ⟨v', hy'⟩ := cell?_setCell_some (w := w) (p := ⟨g, i, none⟩) (x := .int .i64 (at0 xs j)) (q := ⟨g, j, none⟩) cj
  have hfin : ∀ q, SwapPost w hb (.slice (some ⟨g, 0, none⟩) xs.length cap) (sw xs i j) (.returned (.tuple #[])) (((w.setCell ⟨g, i, none⟩ (.int .i64 (at0 xs j))).setCell ⟨g, j, none⟩ (.int .i64 (at0 xs i))).drewN q) := fun q => by
    have k1 : Keeps w ((w.setCell ⟨g, i, none⟩ (.int .i64 (at0 xs j))).setCell ⟨g, j, none⟩ (.int .i64 (at0 xs i))) (fun k => (Value.slice (some ⟨g, 0, none⟩) xs.length cap).ownBlock = some k) := ((Keeps.refl w (fun k => (Value.slice (some ⟨g, 0, none⟩) xs.length cap).ownBlock = some k)).setCell ⟨g, i, none⟩ (fun _ => rfl) _).setCell ⟨g, j, none⟩ (fun _ => rfl) _
    exact ⟨rfl, (h.swapped i j).keeps ((Keeps.refl _ (fun _ => False)).drewN q) id (fun _ _ => id), k1.drewN q⟩
  have HF := hide hfin
  clear hfin h hc hf
  go_enter Tryz.func156, Tryz.ntmps156
  go_wp2
  go_region
  all_goals (try go_wp2)
  all_goals go_end0
  all_goals exact HF.out 1
end Go.Proofs.YtdlibnjgmdffnaaGreat
namespace Go.Proofs.YtdlibnjgmdffnaaGreat
open Go.RowKit Go.Shelf

/-- A builtin append whose run is known, in a region that draws. -/
theorem step_append_run {P : Program} {w : World} {ops : Array Oper} {o : Oper} {a : Act} {K : Act → World → Prop} {Q : Exit → Act → World → Prop} {E : Prop} (hgd : o.guard = none) (s x : Operand) (t : TypeId)
    (ho : o.op = .call { callee := .builtin .append, args := #[s, x], argTypes := #[t, t] }) {v u v' : Value} {w' : World} (hs : a.eval s = v) (hx : a.eval x = u)
    (hrun : ∀ ty, (Builtin.append_ #[t, t] ty #[v, u]).run P w = .ok v' w') (h : K (a.put o.dst v') w') :
    if Region.wanted o (yielded ops a.tmps) = true then Oper.wp P o a w K Q else E := by
  have hw : Region.wanted o (yielded ops a.tmps) = true := by simp [Region.wanted, hgd]
  rw [if_pos hw]
  unfold Oper.wp execOp
  simp only [ho, resolve, invoke, builtin, Sem.run_bind, Sem.run_pure, Result.andThen_ok, List.map_toArray, List.map_cons, List.map_nil, hs, hx, hrun]
  exact h

/-- A heap turned to another: its row may have moved. -/
def HeapTurned (w : World) (hb : Nat) (v : Value) (ys : List Int) (w' : World) : Prop :=
  ∃ v', HeapAt w' hb v' ys ∧ Keeps w w' (fun k => k = hb ∨ v.ownBlock = some k) ∧ (v'.ownBlock = v.ownBlock ∨ ∃ k, v'.ownBlock = some k ∧ w.heap.size ≤ k)

set_option maxRecDepth 100000 in
set_option maxHeartbeats 2000000 in
theorem low_push {w : World} {hb : Nat} {v : Value} {xs : List Int} (h : HeapAt w hb v xs) (x : Int) (hl : xs.length ≤ 134217728) :
    Calls Tryz.prog 155 #[.pointer (some ⟨hb, 0, none⟩), .iface 3 (.int .i64 x)] w fun e w' => e = .returned (.tuple #[]) ∧ HeapTurned w hb v (xs ++ [x]) w' := by
  have c0 := h.cell
  have cA : (w.alloc (.cells #[.int .i64 x] 3)).cell? ⟨hb, 0, none⟩ = some v := (h.keeps ((Keeps.refl w (fun _ => False)).alloc (.cells #[.int .i64 x] 3)) id (fun _ _ => id)).cell
  have k3 : Keeps w (w.drew.alloc (.cells #[cellI x] 3)) (fun _ => False) := ((Keeps.refl w (fun _ => False)).drewN 1).alloc _
  have h3 := h.keeps k3 id (fun _ _ => id)
  obtain ⟨g4, cap4, w4, hap, beg4, k4, hloc⟩ := append_one (P := Tryz.prog) 131 3 (.int .i64 0) 8 Tryz.underlying131 Tryz.infoI rfl h3.row (heap_alloc_new w.drew (.cells #[cellI x] 3)) rfl (by omega) (by unfold maxLen; omega) (Nat.zero_le _)
  have hp4 := (k4.block hb h3.lt (fun e => h3.ne e rfl)).trans h3.hp
  have c4 : w4.cell? ⟨hb, 0, none⟩ = some v := cell_of_one hp4
  have f4 : w4.frozen? ⟨hb, 0, none⟩ = false := free_of_one hp4
  have hfin : HeapTurned w hb v (xs ++ [x]) (w4.setCell ⟨hb, 0, none⟩ (.slice (some ⟨g4, 0, none⟩) (xs.length + 1) cap4)) := by
    have hsz : w.heap.size ≤ w.drew.heap.size := Nat.le_refl _
    have hne : hb ≠ g4 := fun e => by
      rcases hloc with e2 | e2
      · exact h.ne e2 e
      · have := h3.lt
        have := h.lt
        simp at e2
        have : g4 = w.heap.size + 1 := e2
        omega
    refine ⟨.slice (some ⟨g4, 0, none⟩) (xs.length + 1) cap4, ⟨one_setCell hp4, ?_⟩, ?_, ?_⟩
    · have := ownsRow_setCell_other beg4 (a := ⟨hb, 0, none⟩) (by simp [Value.ownBlock]; exact fun e => hne e.symm) (.slice (some ⟨g4, 0, none⟩) (xs.length + 1) cap4)
      simpa using this
    · exact ((k3.mono (S1 := fun k => k = hb ∨ v.ownBlock = some k) (fun _ _ e => e.elim)).trans k4 (fun _ _ e => Or.inr e)).setCell _ (fun _ => Or.inl rfl) _
    · rcases hloc with e | e
      · exact Or.inl (by rw [e]; rfl)
      · refine Or.inr ⟨g4, rfl, ?_⟩
        simp at e
        have : g4 = w.heap.size + 1 := e
        omega
  have HF := hide hfin
  clear hfin h h3 k3 k4 beg4 hloc hp4
  have hta : ∀ w', Sem.run Tryz.prog (Instr.typeAssert (.iface 3 (.int .i64 x)) 20 3 false) w' = .ok (.int .i64 x) w' := fun _ => by kernel_rfl
  unfold cellI at hap
  go_enter Tryz.func155, Tryz.ntmps155
  go_wp2
  go_region_law (refine step_append_run (by rfl) _ _ 131 (by rfl) (by rfl) (by rfl) hap ?_)
  all_goals (try go_wp2)
  all_goals go_end0
  all_goals exact ⟨rfl, HF.out⟩
end Go.Proofs.YtdlibnjgmdffnaaGreat
namespace Go.Proofs.YtdlibnjgmdffnaaGreat
open Go.RowKit Go.Shelf

set_option maxRecDepth 100000 in
set_option maxHeartbeats 2000000 in
theorem low_pop {w : World} {hb : Nat} {v : Value} {ys : List Int} {m : Int} (h : HeapAt w hb v (ys ++ [m])) (hl : ys.length ≤ 134217728) :
    Calls Tryz.prog 154 #[.pointer (some ⟨hb, 0, none⟩)] w fun e w' => e = .returned (.iface 3 (.int .i64 m)) ∧ HeapTurned w hb v ys w' := by
  have c0 := h.cell
  have f0 := h.frozen
  obtain ⟨g, cap, hv, hcap, hm, hc, _⟩ := h.form (by simp)
  have hlen : (ys ++ [m]).length = ys.length + 1 := by simp
  rw [hlen] at hv hcap
  subst hv
  have cm := hc ys.length (by simp)
  have hat : at0 (ys ++ [m]) ys.length = m := by simp [at0]
  rw [hat] at cm
  unfold maxLen at hm
  have hfin : HeapTurned w hb (.slice (some ⟨g, 0, none⟩) (ys.length + 1) cap) ys (w.setCell ⟨hb, 0, none⟩ (.slice (some ⟨g, 0, none⟩) ys.length cap)) := by
    have hne : hb ≠ g := h.ne rfl
    have hr := h.row
    rw [hlen, List.map_append] at hr
    have hr2 := ownsRow_pop (by simp) hr
    refine ⟨_, ⟨one_setCell h.hp, ownsRow_setCell_other hr2 (a := ⟨hb, 0, none⟩) (by simp [Value.ownBlock]; exact fun e => hne e.symm) _⟩, ?_, Or.inl rfl⟩
    exact (Keeps.refl w (fun k => k = hb ∨ (Value.slice (some ⟨g, 0, none⟩) (ys.length + 1) cap).ownBlock = some k)).setCell _ (fun _ => Or.inl rfl) _
  have HF := hide hfin
  have HH := hide h
  clear hfin h hc hat hlen
  go_enter Tryz.func154, Tryz.ntmps154
  go_wp2
  go_ret
  exact ⟨rfl, HF.out⟩
end Go.Proofs.YtdlibnjgmdffnaaGreat
namespace Go.Proofs.YtdlibnjgmdffnaaGreat
open Go.RowKit Go.Shelf

abbrev lowP (hb : Nat) : Value := .pointer (some ⟨hb, 0, none⟩)
theorem reach_less (hb : Nat) (w : World) : Sem.run Tryz.prog (method (Tryz.prog.types.size + 100) 130 (.pointer (some ⟨hb, 0, none⟩)) "Less") w = .ok (153, .pointer (some ⟨hb, 0, none⟩)) w := by kernel_rfl
theorem reach_swap (hb : Nat) (w : World) : Sem.run Tryz.prog (method (Tryz.prog.types.size + 100) 130 (.pointer (some ⟨hb, 0, none⟩)) "Swap") w = .ok (156, .pointer (some ⟨hb, 0, none⟩)) w := by kernel_rfl
theorem reach_len (hb : Nat) (w : World) : Sem.run Tryz.prog (method (Tryz.prog.types.size + 100) 130 (.pointer (some ⟨hb, 0, none⟩)) "Len") w = .ok (109, .pointer (some ⟨hb, 0, none⟩)) w := by kernel_rfl
theorem reach_push (hb : Nat) (w : World) : Sem.run Tryz.prog (method (Tryz.prog.types.size + 100) 130 (.pointer (some ⟨hb, 0, none⟩)) "Push") w = .ok (155, .pointer (some ⟨hb, 0, none⟩)) w := by kernel_rfl
theorem reach_pop (hb : Nat) (w : World) : Sem.run Tryz.prog (method (Tryz.prog.types.size + 100) 130 (.pointer (some ⟨hb, 0, none⟩)) "Pop") w = .ok (154, .pointer (some ⟨hb, 0, none⟩)) w := by kernel_rfl
theorem ent_less : Enters Tryz.prog 153 := enters_of Tryz.func153 (by kernel_rfl) rfl
theorem ent_swap : Enters Tryz.prog 156 := enters_of Tryz.func156 (by kernel_rfl) rfl
theorem ent_len : Enters Tryz.prog 109 := enters_of Tryz.func109 (by kernel_rfl) rfl
theorem ent_push : Enters Tryz.prog 155 := enters_of Tryz.func155 (by kernel_rfl) rfl
theorem ent_pop : Enters Tryz.prog 154 := enters_of Tryz.func154 (by kernel_rfl) rfl

def UpPost (w : World) (hb : Nat) (v : Value) (xs : List Int) (e : Ending) (w' : World) : Prop := e = .returned (.tuple #[]) ∧ ∃ ys : List Int, ys.Perm xs ∧ Heapy ys.length ys ∧ HeapAt w' hb v ys ∧ Keeps w w' (fun k => v.ownBlock = some k)
def UpRel (w : World) (hb : Nat) (v : Value) (xs : List Int) (j : Nat) (wr : World) : Prop := ∃ ys : List Int, j < ys.length ∧ ys.Perm xs ∧ UpInv ys j ∧ HeapAt wr hb v ys ∧ Keeps w wr (fun k => v.ownBlock = some k)

set_option maxRecDepth 100000 in
set_option maxHeartbeats 2000000 in
theorem heap_up {w : World} {hb : Nat} {v : Value} {xs : List Int} {j0 : Nat} (h : UpRel w hb v xs j0 w) (hl : xs.length ≤ 134217728) :
    Calls Tryz.prog 107 #[.iface 130 (.pointer (some ⟨hb, 0, none⟩)), .int .i64 (j0 : Int)] w fun e w' => UpPost w hb v xs e w' := by
  have mL := reach_less hb
  have mS := reach_swap hb
  have eL := ent_less
  have eS := ent_swap
  unfold Enters at eL eS
  have H0 := hide h
  clear h
  go_enter Tryz.func107, Tryz.ntmps107
  go_wp2
  go_loopw [1] (fun vj wr => ∃ j : Nat, vj = .int .i64 (j : Int) ∧ UpRel w hb v xs j wr) (fun vj _ => (intOf vj).toNat)
  case atStart => exact ⟨j0, rfl, H0.out⟩
  case round =>
    obtain ⟨j, rfl, ys, hj, hperm, hinv, hat, hk⟩ := hrel
    have hlen := hperm.length_eq
    have P0 := hide hperm
    have I0 := hide hinv
    clear hperm hinv
    rcases Nat.eq_zero_or_pos j with hz | hpos
    · subst hz
      have hfin : UpPost w hb v xs (.returned (.tuple #[])) wr := ⟨rfl, ys, P0.out, I0.out.stop (Or.inl rfl), hat, hk⟩
      have HF := hide hfin
      clear hfin hat hk hlen hj I0 P0 H0
      go_wp2_with fail
      go_end0
      exact HF.out
    · obtain ⟨i, hi⟩ : ∃ i, i = (j - 1) / 2 := ⟨_, rfl⟩
      have hij : i < j := by omega
      have hil : i < ys.length := by omega
      have hq : Int.tdiv ((j : Int) - 1) 2 = (i : Int) := by
        rw [Int.tdiv_eq_ediv_of_nonneg (by omega)]
        omega
      have hne : ((i : Int) == (j : Int)) = false := by simp; omega
      have hbl : j ≤ 134217728 := by omega
      have hL := low_less hat j i hj hil (by omega)
      by_cases hlt : at0 ys j < at0 ys i
      · have hstep : Hid (∀ q, Calls Tryz.prog 156 #[.pointer (some ⟨hb, 0, none⟩), .int .i64 (i : Int), .int .i64 (j : Int)] (wr.drewN q) fun e w' => e = .returned (.tuple #[]) ∧ UpRel w hb v xs i w') := fun q => by
          have kq : Keeps wr (wr.drewN q) (fun _ => False) := (Keeps.refl wr _).drewN q
          refine (low_swap (hat.keeps kq id (fun _ _ => id)) i j hil hj (by omega)).mono ?_
          rintro e w' ⟨rfl, h1, h2⟩
          refine ⟨rfl, sw ys i j, by rw [sw_length]; exact hil, (sw_perm hil hj).trans P0.out, ?_, h1, (hk.trans kq (fun _ _ e => e.elim)).trans h2 (fun _ _ e => e)⟩
          subst hi
          exact I0.out.step hj hpos hlt
        rw [decide_eq_true hlt] at hL
        clear hat hk hlen hj I0 P0 H0 hlt hil hi
        go_wp2_with fail
        refine hL.mono ?_
        rintro e w1 ⟨rfl, q, rfl⟩
        have hS := hstep.out q
        clear hL hstep
        go_wp2_with fail
        refine hS.mono ?_
        rintro e w2 ⟨rfl, hr⟩
        have HR := hide hr
        clear hS hr
        go_wp2_with fail
        exact ⟨⟨i, rfl, HR.out⟩, by simp [intOf]; omega⟩
      · have hfin : ∀ q, UpPost w hb v xs (.returned (.tuple #[])) (wr.drewN q) := fun q => by
          have kq : Keeps wr (wr.drewN q) (fun _ => False) := (Keeps.refl wr _).drewN q
          refine ⟨rfl, ys, P0.out, I0.out.stop (Or.inr ?_), hat.keeps kq id (fun _ _ => id), hk.trans kq (fun _ _ e => e.elim)⟩
          subst hi
          omega
        have HF := hide hfin
        rw [decide_eq_false hlt] at hL
        clear hfin hat hk hlen hj I0 P0 H0 hlt hil hi
        go_wp2_with fail
        refine hL.mono ?_
        rintro e w1 ⟨rfl, q, rfl⟩
        clear hL
        go_wp2_with fail
        go_end0
        exact HF.out q
end Go.Proofs.YtdlibnjgmdffnaaGreat
namespace Go.Proofs.YtdlibnjgmdffnaaGreat
open Go.RowKit Go.Shelf

def PushPost (w : World) (hb : Nat) (v : Value) (xs : List Int) (e : Ending) (w' : World) : Prop := e = .returned (.tuple #[]) ∧ ∃ ys : List Int, ys.Perm xs ∧ Heapy ys.length ys ∧ HeapTurned w hb v ys w'

theorem HeapTurned.then {w w1 w2 : World} {hb : Nat} {v v1 : Value} {ys : List Int} (k1 : Keeps w w1 (fun k => k = hb ∨ v.ownBlock = some k)) (l1 : v1.ownBlock = v.ownBlock ∨ ∃ k, v1.ownBlock = some k ∧ w.heap.size ≤ k)
    (h2 : HeapAt w2 hb v1 ys) (k2 : Keeps w1 w2 (fun k => v1.ownBlock = some k)) : HeapTurned w hb v ys w2 := by
  refine ⟨v1, h2, k1.trans k2 (fun i hi e => ?_), l1⟩
  rcases l1 with l | ⟨k, l, hk⟩
  · exact Or.inr (l ▸ e)
  · rw [l] at e
    cases e
    omega

set_option maxRecDepth 100000 in
set_option maxHeartbeats 2000000 in
theorem heap_push {w : World} {hb : Nat} {v : Value} {xs : List Int} (h : HeapAt w hb v xs) (hh : Heapy xs.length xs) (x : Int) (hl : xs.length < 134217728) :
    Calls Tryz.prog 89 #[.iface 130 (.pointer (some ⟨hb, 0, none⟩)), .iface 3 (.int .i64 x)] w fun e w' => PushPost w hb v (xs ++ [x]) e w' := by
  have mP := reach_push hb
  have mL := reach_len hb
  have eP := ent_push
  have eL := ent_len
  unfold Enters at eP eL
  have hP := low_push h x (by omega)
  clear h
  go_enter Tryz.func89, Tryz.ntmps89
  go_wp2_with fail
  refine hP.mono ?_
  rintro e w1 ⟨rfl, v1, h1, k1, l1⟩
  clear hP
  have hL := low_len h1
  have hlen : (((xs ++ [x]).length : Nat) : Int) = (xs.length : Int) + 1 := by simp
  rw [hlen] at hL
  have hU : Hid (Calls Tryz.prog 107 #[.iface 130 (.pointer (some ⟨hb, 0, none⟩)), .int .i64 (xs.length : Int)] w1 fun e w' => PushPost w hb v (xs ++ [x]) e w') := by
    refine (heap_up (xs := xs ++ [x]) (j0 := xs.length) ⟨xs ++ [x], by simp, List.Perm.refl _, UpInv.start hh, h1, Keeps.refl _ _⟩ (by simp; omega)).mono ?_
    rintro e w2 ⟨rfl, ys, p2, hy, h2, k2⟩
    exact ⟨rfl, ys, p2, hy, HeapTurned.then k1 l1 h2 k2⟩
  clear h1 k1 l1 hlen hh
  go_wp2_with fail
  refine hL.mono ?_
  rintro e w2 ⟨rfl, rfl⟩
  have hU := hU.out
  clear hL
  go_wp2_with fail
  refine hU.mono ?_
  intro e w3 hp
  have he := hp.1
  subst he
  have HP := hide hp
  clear hU hp
  go_wp2_with fail
  go_end0
  exact HP.out
end Go.Proofs.YtdlibnjgmdffnaaGreat
/-
  A block is laid among the free ones: the data.
-/
namespace Go.Proofs.YtdlibnjgmdffnaaGreat
open Go.RowKit Go.Shelf

def AD.freed (d : AD) (x : Int) (ys : List Int) : AD := { d with fm := upd d.fm x (some ys) }
def fupd (fv : Int → Value) (x : Int) (v : Value) : Int → Value := fun y => if y = x then v else fv y
theorem fupd_same (fv : Int → Value) (x : Int) (v : Value) : fupd fv x v x = v := by simp [fupd]
theorem fupd_other (fv : Int → Value) (x y : Int) (v : Value) (h : y ≠ x) : fupd fv x v y = fv y := by simp [fupd, h]

/-- A heap's head is no row. -/
theorem HeapAt.row_ne {w : World} {b b' : Nat} {v v' : Value} {xs xs' : List Int} (h : HeapAt w b v xs) (h' : HeapAt w b' v' xs') : v.ownBlock ≠ some b' := fun e => by
  obtain ⟨cur, hc⟩ := own_obj h.row e
  exact ne_of_obj h'.hp hc (by simp) rfl

/-- A heap has turned. -/
theorem ArenaAt.heap_turned' {w w' : World} {p : Nat} {c : AR} {d : AD} (h : ArenaAt w p c d) {x : Int} {b : Nat} (hb : c.hb x = some b) {ys : List Int} (hy : Heapy ys.length ys) (ht : HeapTurned w b (c.fv x) ys w') :
    ∃ v', (∀ zs : List Int, ys.Perm zs → ArenaAt w' p { c with fv := fupd c.fv x v' } (d.freed x zs)) ∧ Keeps w w' (c.foot p) ∧ ∀ k, ({ c with fv := fupd c.fv x v' } : AR).foot p k → c.foot p k ∨ w.heap.size ≤ k := by
  obtain ⟨v', h1, k1, l1⟩ := ht
  obtain ⟨xs, ys0, hxs, _, ha, _⟩ := h.heaps.some_of hb
  have hS : ∀ k, (k = b ∨ (c.fv x).ownBlock = some k) → heapsFoot c.hb c.fv k := fun k hk => ⟨x, b, hb, hk⟩
  have hne : ∀ k, (k = b ∨ (c.fv x).ownBlock = some k) → k ≠ p ∧ k ≠ c.b ∧ k ≠ c.g ∧ k ≠ c.bl ∧ k ≠ c.bf ∧ c.v.ownBlock ≠ some k := fun k hk => h.heap_ne (hS k hk)
  have hnew : ∀ k, v'.ownBlock = some k → (c.fv x).ownBlock = some k ∨ w.heap.size ≤ k := fun k hk => by
    rcases l1 with e | ⟨k', e, hk'⟩
    · exact Or.inl (e ▸ hk)
    · rw [e] at hk
      cases hk
      exact Or.inr hk'
  have hlt : ∀ k, heapsFoot c.hb c.fv k → k < w.heap.size := fun k hk => h.foot_lt (Or.inr (Or.inr (Or.inr (Or.inr (Or.inr (Or.inr hk))))))
  have hvlt : ∀ k, c.v.ownBlock = some k → k < w.heap.size := fun k hk => h.foot_lt (Or.inr (Or.inr (Or.inr (Or.inr (Or.inr (Or.inl hk))))))
  refine ⟨v', fun zs hyz => ⟨?_, ?_, ?_, ?_, ?_, h.hlf, ?_, ?_, ?_, ?_⟩, k1.mono (fun i _ e => Or.inr (Or.inr (Or.inr (Or.inr (Or.inr (Or.inr (hS i e))))))), ?_⟩
  · exact (k1.block p (heap_lt h.hp) (fun e => (hne p e).1 rfl)).trans h.hp
  · exact h.mem.keeps k1 (fun e => (hne _ e).2.1 rfl) (fun e => (hne _ e).2.2.1 rfl)
  · exact ownsRow_keeps h.beg k1 (fun k hk e => (hne k e).2.2.2.2.2 hk)
  · exact h.live.keeps k1 (fun e => (hne _ e).2.2.2.1 rfl)
  · exact h.free.keeps k1 (fun e => (hne _ e).2.2.2.2.1 rfl)
  · intro y
    show (c.hb y).isSome = (upd d.fm x (some zs) y).isSome
    by_cases e : y = x
    · subst e
      rw [upd_same, hb]
      rfl
    · rw [upd_other _ _ _ _ e]
      exact h.heaps.dom y
  · intro y b' ts hb0 hz0
    have hz : upd d.fm x (some zs) y = some ts := hz0
    have hb' : c.hb y = some b' := hb0
    show ∃ us : List Int, us.Perm ts ∧ HeapAt w' b' (fupd c.fv x v' y) us ∧ Heapy us.length us
    clear hz0 hb0
    by_cases e : y = x
    · subst e
      rw [upd_same] at hz
      cases hz
      rw [hb] at hb'
      cases hb'
      rw [fupd_same]
      exact ⟨ys, hyz, h1, hy⟩
    · rw [upd_other _ _ _ _ e] at hz
      rw [fupd_other _ _ _ _ e]
      have hap := h.heaps.apart y x b' b e hb' hb
      obtain ⟨us, g1, g2, g3⟩ := h.heaps.heap y b' ts hb' hz
      refine ⟨us, g1, g2.keeps k1 (fun e1 => ?_) (fun k hk e1 => ?_), g3⟩
      · rcases e1 with e1 | e1
        · exact hap.1 e1
        · exact ha.row_ne g2 e1
      · rcases e1 with e1 | e1
        · subst e1
          exact g2.row_ne ha hk
        · exact hap.2 k hk e1
  · intro y b' k hb' hk
    have hb' : c.hb y = some b' := hb'
    have hk : (fupd c.fv x v' y).ownBlock = some k := hk
    by_cases e : y = x
    · subst e
      rw [fupd_same] at hk
      rcases hnew k hk with e1 | e1
      · exact h.heaps.row y b' k hb' e1
      · exact fun e2 => by have := hvlt k e2; omega
    · rw [fupd_other _ _ _ _ e] at hk
      exact h.heaps.row y b' k hb' hk
  · intro y z b1 b2 hyz hb1 hb2
    have hb1 : c.hb y = some b1 := hb1
    have hb2 : c.hb z = some b2 := hb2
    have hap := h.heaps.apart y z b1 b2 hyz hb1 hb2
    refine ⟨hap.1, fun k hk0 hk20 => ?_⟩
    have hk : (fupd c.fv x v' y).ownBlock = some k := hk0
    have hk2 : (fupd c.fv x v' z).ownBlock = some k := hk20
    clear hk0 hk20
    by_cases e : y = x
    · subst e
      rw [fupd_same] at hk
      rw [fupd_other _ _ _ _ (fun e => hyz e.symm)] at hk2
      rcases hnew k hk with e1 | e1
      · exact hap.2 k e1 hk2
      · have := hlt k ⟨z, b2, hb2, Or.inr hk2⟩
        omega
    · rw [fupd_other _ _ _ _ e] at hk
      by_cases e2 : z = x
      · subst e2
        rw [fupd_same] at hk2
        rcases hnew k hk2 with e1 | e1
        · exact hap.2 k hk e1
        · have := hlt k ⟨y, b1, hb1, Or.inr hk⟩
          omega
      · rw [fupd_other _ _ _ _ e2] at hk2
        exact hap.2 k hk hk2
  · intro k hk
    rcases hk with e | e | e | e | e | e | ⟨y, b', hb', hk⟩
    · exact Or.inl (Or.inl e)
    · exact Or.inl (Or.inr (Or.inl e))
    · exact Or.inl (Or.inr (Or.inr (Or.inl e)))
    · exact Or.inl (Or.inr (Or.inr (Or.inr (Or.inl e))))
    · exact Or.inl (Or.inr (Or.inr (Or.inr (Or.inr (Or.inl e)))))
    · exact Or.inl (Or.inr (Or.inr (Or.inr (Or.inr (Or.inr (Or.inl e))))))
    · have hb' : c.hb y = some b' := hb'
      have hk : k = b' ∨ (fupd c.fv x v' y).ownBlock = some k := hk
      have hin : ∀ k, heapsFoot c.hb c.fv k → c.foot p k := fun k hk => Or.inr (Or.inr (Or.inr (Or.inr (Or.inr (Or.inr hk)))))
      rcases hk with e | e
      · exact Or.inl (hin _ ⟨y, b', hb', Or.inl e⟩)
      · by_cases e2 : y = x
        · subst e2
          rw [fupd_same] at e
          rcases hnew k e with e1 | e1
          · exact Or.inl (hin _ ⟨y, b', hb', Or.inr e1⟩)
          · exact Or.inr e1
        · rw [fupd_other _ _ _ _ e2] at e
          exact Or.inl (hin _ ⟨y, b', hb', Or.inr e⟩)

/-- A new heap, still empty. -/
theorem ArenaAt.heap_new {w w' : World} {p : Nat} {c : AR} {d : AD} (h : ArenaAt w p c d) {x : Int} (hx : d.fm x = none) {b : Nat} {v' : Value} {nf : Nat} (k1 : Keeps w w' (fun i => i = c.bf)) (hf : MapTo Tryz.prog cPtr w' c.bf nf (upd c.hb x (some b)))
    (hb : HeapAt w' b v' []) (hbn : w.heap.size ≤ b) (hvn : ∀ k, v'.ownBlock = some k → w.heap.size ≤ k) :
    ArenaAt w' p { c with nf := nf, hb := upd c.hb x (some b), fv := fupd c.fv x v' } (d.freed x []) ∧ Keeps w w' (c.foot p) ∧ ∀ k, ({ c with nf := nf, hb := upd c.hb x (some b), fv := fupd c.fv x v' } : AR).foot p k → c.foot p k ∨ w.heap.size ≤ k := by
  have hlt : ∀ k, heapsFoot c.hb c.fv k → k < w.heap.size := fun k hk => h.foot_lt (Or.inr (Or.inr (Or.inr (Or.inr (Or.inr (Or.inr hk))))))
  have hvlt : ∀ k, c.v.ownBlock = some k → k < w.heap.size := fun k hk => h.foot_lt (Or.inr (Or.inr (Or.inr (Or.inr (Or.inr (Or.inl hk))))))
  have hnone := h.heaps.none_of hx
  refine ⟨⟨?_, ?_, ?_, ?_, hf, h.hlf, ?_, ?_, ?_, ?_⟩, k1.mono (fun i _ e => Or.inr (Or.inr (Or.inr (Or.inr (Or.inl e))))), ?_⟩
  · exact (k1.block p (heap_lt h.hp) h.p_bf).trans h.hp
  · exact h.mem.keeps k1 h.bf_b.symm h.bf_g.symm
  · exact ownsRow_keeps h.beg k1 (fun k hk e => h.bf_v hk e.symm)
  · exact h.live.keeps k1 h.hlf
  · intro y
    show (upd c.hb x (some b) y).isSome = (upd d.fm x (some []) y).isSome
    by_cases e : y = x
    · subst e
      rw [upd_same, upd_same]
      rfl
    · rw [upd_other _ _ _ _ e, upd_other _ _ _ _ e]
      exact h.heaps.dom y
  · intro y b' zs hb0 hz0
    have hz : upd d.fm x (some []) y = some zs := hz0
    have hb' : upd c.hb x (some b) y = some b' := hb0
    show ∃ us : List Int, us.Perm zs ∧ HeapAt w' b' (fupd c.fv x v' y) us ∧ Heapy us.length us
    clear hz0 hb0
    by_cases e : y = x
    · subst e
      rw [upd_same] at hz hb'
      cases hz
      cases hb'
      rw [fupd_same]
      exact ⟨[], List.Perm.refl _, hb, fun k _ hk => by simp at hk⟩
    · rw [upd_other _ _ _ _ e] at hz hb'
      rw [fupd_other _ _ _ _ e]
      obtain ⟨us, g1, g2, g3⟩ := h.heaps.heap y b' zs hb' hz
      exact ⟨us, g1, g2.keeps k1 (fun e1 => (h.heap_ne ⟨y, b', hb', Or.inl rfl⟩).2.2.2.2.1 e1) (fun k hk e1 => (h.heap_ne ⟨y, b', hb', Or.inr hk⟩).2.2.2.2.1 e1), g3⟩
  · intro y b' k hb0 hk0
    have hb' : upd c.hb x (some b) y = some b' := hb0
    have hk : (fupd c.fv x v' y).ownBlock = some k := hk0
    clear hb0 hk0
    by_cases e : y = x
    · subst e
      rw [fupd_same] at hk
      exact fun e2 => by have := hvlt k e2; have := hvn k hk; omega
    · rw [fupd_other _ _ _ _ e] at hk
      rw [upd_other _ _ _ _ e] at hb'
      exact h.heaps.row y b' k hb' hk
  · intro y z b1 b2 hyz hb10 hb20
    have hb1 : upd c.hb x (some b) y = some b1 := hb10
    have hb2 : upd c.hb x (some b) z = some b2 := hb20
    show b1 ≠ b2 ∧ ∀ k, (fupd c.fv x v' y).ownBlock = some k → (fupd c.fv x v' z).ownBlock ≠ some k
    clear hb10 hb20
    by_cases e : y = x
    · subst e
      have hzy : z ≠ y := fun e => hyz e.symm
      rw [upd_same] at hb1
      rw [upd_other _ _ _ _ hzy] at hb2
      rw [fupd_same, fupd_other _ _ _ _ hzy]
      cases hb1
      refine ⟨fun e => ?_, fun k hk hk2 => ?_⟩
      · have := hlt b2 ⟨z, b2, hb2, Or.inl rfl⟩
        omega
      · have := hlt k ⟨z, b2, hb2, Or.inr hk2⟩
        have := hvn k hk
        omega
    · rw [upd_other _ _ _ _ e] at hb1
      rw [fupd_other _ _ _ _ e]
      by_cases e2 : z = x
      · subst e2
        rw [upd_same] at hb2
        rw [fupd_same]
        cases hb2
        refine ⟨fun e => ?_, fun k hk hk2 => ?_⟩
        · have := hlt b1 ⟨y, b1, hb1, Or.inl rfl⟩
          omega
        · have := hlt k ⟨y, b1, hb1, Or.inr hk⟩
          have := hvn k hk2
          omega
      · rw [upd_other _ _ _ _ e2] at hb2
        rw [fupd_other _ _ _ _ e2]
        exact h.heaps.apart y z b1 b2 hyz hb1 hb2
  · intro k hk
    have hin : ∀ k, heapsFoot c.hb c.fv k → c.foot p k := fun k hk => Or.inr (Or.inr (Or.inr (Or.inr (Or.inr (Or.inr hk)))))
    rcases hk with e | e | e | e | e | e | ⟨y, b', hb0, hk0⟩
    · exact Or.inl (Or.inl e)
    · exact Or.inl (Or.inr (Or.inl e))
    · exact Or.inl (Or.inr (Or.inr (Or.inl e)))
    · exact Or.inl (Or.inr (Or.inr (Or.inr (Or.inl e))))
    · exact Or.inl (Or.inr (Or.inr (Or.inr (Or.inr (Or.inl e)))))
    · exact Or.inl (Or.inr (Or.inr (Or.inr (Or.inr (Or.inr (Or.inl e))))))
    · have hb' : upd c.hb x (some b) y = some b' := hb0
      have hk : k = b' ∨ (fupd c.fv x v' y).ownBlock = some k := hk0
      clear hb0 hk0
      by_cases e : y = x
      · subst e
        rw [upd_same] at hb'
        rw [fupd_same] at hk
        cases hb'
        rcases hk with e | e
        · exact Or.inr (by omega)
        · exact Or.inr (hvn k e)
      · rw [upd_other _ _ _ _ e] at hb'
        rw [fupd_other _ _ _ _ e] at hk
        exact Or.inl (hin _ ⟨y, b', hb', hk⟩)
end Go.Proofs.YtdlibnjgmdffnaaGreat
namespace Go.Proofs.YtdlibnjgmdffnaaGreat
open Go.RowKit Go.Shelf

def LeavePost (w : World) (p : Nat) (c : AR) (d : AD) (off n : Int) (e : Ending) (w' : World) : Prop :=
  e = .returned (.tuple #[]) ∧ ∃ c', (∀ zs : List Int, zs.Perm ((d.fm n).getD [] ++ [off]) → ArenaAt w' p c' (d.freed n zs)) ∧ Keeps w w' (c.foot p) ∧ ∀ k, c'.foot p k → c.foot p k ∨ w.heap.size ≤ k

/-- The call of heap.Push. -/
theorem push_at {w : World} {p : Nat} {c : AR} {d : AD} (h : ArenaAt w p c d) {n : Int} {b : Nat} {xs : List Int} (hb : c.hb n = some b) (hx : d.fm n = some xs) (off : Int) (hl : xs.length < 134217728) :
    Calls Tryz.prog 89 #[.iface 130 (.pointer (some ⟨b, 0, none⟩)), .iface 3 (.int .i64 off)] w fun e w' => LeavePost w p c d off n e w' := by
  obtain ⟨us, hu, ha, hh⟩ := h.heaps.heap n b xs hb hx
  refine (heap_push ha hh off (by rw [hu.length_eq]; exact hl)).mono ?_
  rintro e w' ⟨rfl, ys, hp, hy, ht⟩
  obtain ⟨v', h1, h2, h3⟩ := h.heap_turned' hb hy ht
  refine ⟨rfl, _, fun zs hz => h1 zs ?_, h2, h3⟩
  rw [hx] at hz
  exact (hp.trans (hu.append_right _)).trans hz.symm

set_option maxHeartbeats 1000000 in
theorem leave_old {w : World} {p : Nat} {c : AR} {d : AD} (h : ArenaAt w p c d) (off n : Int) (hn : fitsI n) {xs : List Int} (hx : d.fm n = some xs) (hl : xs.length < 134217728) :
    Calls Tryz.prog 61 #[.pointer (some ⟨p, 0, none⟩), .int .i64 off, .int .i64 n] w fun e w' => LeavePost w p c d off n e w' := by
  obtain ⟨b, _, hb, _⟩ := h.heaps.block_of hx
  have c5 := h.cell5
  have hlk := look_ptr (w := w) Tryz.underlying3 Tryz.underlying53 (Tryz.zeroP w) h.free hn
  rw [hb] at hlk
  simp only [Option.map_some] at hlk
  have hP := push_at h hb hx off hl
  clear h
  go_enter Tryz.func61, Tryz.ntmps61
  go_wp2_with fail
  refine hP.mono ?_
  intro e w1 hp
  have he := hp.1
  subst he
  have HP := hide hp
  clear hP hp
  go_wp2_with fail
  go_end0
  exact HP.out

set_option maxRecDepth 100000 in
set_option maxHeartbeats 1000000 in
theorem leave_new {w : World} {p : Nat} {c : AR} {d : AD} (h : ArenaAt w p c d) (off n : Int) (hn : fitsI n) (hx : d.fm n = none) (hnf : c.nf < 4294967296) :
    Calls Tryz.prog 61 #[.pointer (some ⟨p, 0, none⟩), .int .i64 off, .int .i64 n] w fun e w' => LeavePost w p c d off n e w' := by
  have hb := h.heaps.none_of hx
  have c5 := h.cell5
  have hlk := look_ptr (w := w) Tryz.underlying3 Tryz.underlying53 (Tryz.zeroP w) h.free hn
  rw [hb] at hlk
  simp only [Option.map_none] at hlk
  have ka : Keeps w ((w.alloc (.cells #[] 3)).alloc (.cells #[.slice (some ⟨w.heap.size, 0, none⟩) 0 0] 131)) (fun _ => False) := ((Keeps.refl w (fun _ => False)).alloc _).alloc _
  have hs1 : (w.alloc (.cells #[] 3)).heap.size = w.heap.size + 1 := by simp
  obtain ⟨w3, hst, hf3, k3⟩ := (h.free.keeps ka id).store (v := .pointer (some ⟨w.heap.size + 1, 0, none⟩)) (a := w.heap.size + 1) Tryz.underlying3 Tryz.underlying53 (by unfold maxLen; omega) hn (rdr_ptr _)
  have hA : HeapAt ((w.alloc (.cells #[] 3)).alloc (.cells #[.slice (some ⟨w.heap.size, 0, none⟩) 0 0] 131)) (w.heap.size + 1) (.slice (some ⟨w.heap.size, 0, none⟩) 0 0) [] := by
    refine ⟨?_, rfl, Or.inr ⟨w.heap.size, 0, #[], rfl, Nat.zero_le _, ?_, Nat.le_refl _, Nat.zero_le _, rfl, rfl⟩⟩
    · have := heap_alloc_new (w.alloc (.cells #[] 3)) (.cells #[.slice (some ⟨w.heap.size, 0, none⟩) 0 0] 131)
      rw [hs1] at this
      exact this
    · have := heap_alloc_new w (.cells #[] 3)
      rw [((Keeps.refl (w.alloc (.cells #[] 3)) (fun _ => False)).alloc (.cells #[.slice (some ⟨w.heap.size, 0, none⟩) 0 0] 131)).block w.heap.size (by rw [hs1]; omega) id]
      exact this
  have hbf := h.free.lt
  have hA3 := hA.keeps k3 (fun e => by omega) (fun k hk e => by simp [Value.ownBlock] at hk; omega)
  obtain ⟨h4, k4, f4⟩ := h.heap_new hx ((ka.mono (S1 := fun i => i = c.bf) (fun _ _ e => e.elim)).trans k3 (fun _ _ e => e)) hf3 hA3 (by omega) (fun k hk => by simp [Value.ownBlock] at hk; omega)
  have c5' : w3.cell? ⟨p, 5, none⟩ = some (.map (some c.bf)) := h4.cell5
  have hlk' := look_ptr (w := w3) Tryz.underlying3 Tryz.underlying53 (Tryz.zeroP w3) hf3 hn
  have hb4 : upd c.hb n (some (w.heap.size + 1)) n = some (w.heap.size + 1) := upd_same _ _ _
  rw [hb4] at hlk'
  simp only [Option.map_some] at hlk'
  have hP : Calls Tryz.prog 89 #[.iface 130 (.pointer (some ⟨w.heap.size + 1, 0, none⟩)), .iface 3 (.int .i64 off)] w3 fun e w' => LeavePost w p c d off n e w' := by
    refine (push_at h4 hb4 (upd_same _ _ _) off (by simp)).mono ?_
    rintro e w' ⟨rfl, c', h5, k5, f5⟩
    refine ⟨rfl, c', fun ys hp => ?_, ?_, ?_⟩
    · have e0 : (d.freed n []).fm n = some [] := upd_same _ _ _
      rw [hx] at hp
      rw [e0] at h5
      have e1 : (d.freed n []).freed n ys = d.freed n ys := by
        unfold AD.freed
        congr 1
        funext y
        by_cases e : y = n <;> simp [upd, e]
      rw [← e1]
      exact h5 ys hp
    · exact k4.trans k5 (fun i hi e => by
        rcases f4 i e with e | e
        · exact e
        · omega)
    · intro k hk
      rcases f5 k hk with e | e
      · exact f4 k e
      · have := k4.size
        exact Or.inr (by omega)
  clear h h4 k4 f4 hA hA3 hf3 k3 ka hs1 hbf hnf hb4 hb hx
  go_enter Tryz.func61, Tryz.ntmps61
  go_wp2_with fail
  refine hP.mono ?_
  intro e w1 hp
  have he := hp.1
  subst he
  have HP := hide hp
  clear hP hp
  go_wp2_with fail
  go_end0
  exact HP.out
end Go.Proofs.YtdlibnjgmdffnaaGreat
/-
  slices.Values, AppendSeq, Collect at lists of ints.
-/
namespace Go.Proofs.YtdlibnjgmdffnaaGreat
open Go.RowKit Go.Shelf

attribute [local go_sem] Oper.semAt_some

def upto (zs : List Int) (k : Nat) : List Int := (List.range k).map (fun j => zs[j]?.getD 0)
theorem upto_succ (zs : List Int) (k : Nat) : upto zs (k + 1) = upto zs k ++ [zs[k]?.getD 0] := by simp [upto, List.range_succ]
theorem upto_length (zs : List Int) (k : Nat) : (upto zs k).length = k := by simp [upto]
theorem upto_all (zs : List Int) : upto zs zs.length = zs := by
  apply List.ext_getElem
  · simp [upto]
  · intro i h1 h2
    simp [upto, h2]

set_option maxRecDepth 100000 in
set_option maxHeartbeats 2000000 in
theorem vals_some (F : Fence) (n : Nat) (h7 : F.fn 99) (hro : F.round = none) (hn : 1 ≤ n) (l Bs n₀ b off len cap : Nat) (zs : List Int) (hreach : len * 8 ≤ 140737488351232) (hb : b < n₀) (J Jx : List Int → World → Prop)
    (hY : ∀ pre x W, J pre W → pre.length < len → YieldAt F (n - 1) Tryz.prog l #[.int .i64 x] W fun e W' =>
      (e = .returned (.bool true) ∧ J (pre ++ [x]) W' ∧ Below n₀ W W') ∨ (e = .returned (.bool false) ∧ Jx (pre ++ [x]) W'))
    (W : World) (hBs : W.cell? ⟨Bs, 0, none⟩ = some (.slice (some ⟨b, off, none⟩) len cap)) (hc : ∀ j, j < len → W.cell? ⟨b, off + j, none⟩ = some (.int .i64 (zs[j]?.getD 0))) (h0 : J [] W) :
    CallsIn F n Tryz.prog 99 #[.func (.yield l) #[] #[], .pointer (some ⟨Bs, 0, none⟩)] W fun e W' => (∃ v, e = .returned v) ∧
      ((∃ ys, ys = upto zs len ∧ J ys W') ∨ (∃ pre, (∃ k, k ≤ len ∧ pre = upto zs k) ∧ Jx pre W')) := by
  refine callsIn_of_wp Tryz.func99 rfl h7 ?_ hro
  simp only [Tryz.ntmps99, List.size_toArray, List.length_cons, List.length_nil, Nat.reduceAdd, Nat.reduceSub, Array.replicate_succ, Array.replicate_zero, List.push_toArray, List.append_toArray, List.nil_append, List.cons_append]
  gi_wp2
  gi_loopw [7] (fun i wr => ∃ k : Nat, k ≤ len ∧ i = .int .i64 k ∧ J (upto zs k) wr ∧ Below n₀ W wr)
    (fun i _ => len - (intOf i).toNat)
  case atStart => exact ⟨0, Nat.zero_le _, rfl, h0, Below.refl _ _⟩
  case round =>
    obtain ⟨k, hk, rfl, hJs, hnx⟩ := hrel
    have hcx : k < len → wr.cell? ⟨b, off + k, none⟩ = some (.int .i64 (zs[k]?.getD 0)) := fun h => (hnx.cell (p := ⟨b, off + k, none⟩) hb).trans (hc k h)
    by_cases hlt : k < len
    · obtain ⟨fn, tmps, assign, body, hy, hR⟩ := hY _ (zs[k]?.getD 0) wr hJs (by rw [upto_length]; exact hlt)
      have hcx' := hcx hlt
      gi_wp2
      refine hR.mono ?_
      rintro e W3 (⟨rfl, hJ3, hk3⟩ | ⟨rfl, hJx3⟩)
      · gi_wp2
        go_roundw
        case rel => exact ⟨k + 1, by omega, by simp, by rw [upto_succ]; exact hJ3, hnx.trans hk3⟩
        case measure => simp [intOf]; omega
      · gi_wp2
        refine bodyPost_ret (results_none rfl _ _ _) rfl ?_
        exact ⟨⟨_, rfl⟩, .inr ⟨_, ⟨k + 1, by omega, (upto_succ _ _).symm⟩, hJx3⟩⟩
    · obtain rfl : k = len := by omega
      gi_wp2
      go_end0
      exact ⟨⟨_, rfl⟩, .inl ⟨_, rfl, hJs⟩⟩

set_option maxHeartbeats 1000000 in
theorem values_in (F : Fence) (n : Nat) (h5 : F.fn 77) (hro : F.round = none) (a : Option Addr) (len cap : Nat) (w : World) :
    CallsIn F n Tryz.prog 77 #[.slice a len cap] w fun e w' => e = .returned (.func (.func 99) #[] #[.pointer (some ⟨w.heap.size, 0, none⟩)]) ∧ w' = w.alloc (.cells #[.slice a len cap] 32) := by
  refine callsIn_of_wp Tryz.func77 rfl h5 ?_ hro
  simp only [Tryz.ntmps77, List.size_toArray, List.length_cons, List.length_nil, Nat.reduceAdd, Nat.reduceSub, Array.replicate_succ, Array.replicate_zero, List.push_toArray, List.append_toArray, List.nil_append, List.cons_append]
  gi_wp2
  go_ret
  exact ⟨rfl, rfl⟩
end Go.Proofs.YtdlibnjgmdffnaaGreat
namespace Go.Proofs.YtdlibnjgmdffnaaGreat
open Go.RowKit Go.Shelf

attribute [local go_sem] Oper.semAt_some

set_option maxRecDepth 100000 in
set_option maxHeartbeats 1000000 in
theorem vals_none (F : Fence) (n : Nat) (h7 : F.fn 99) (hro : F.round = none) (l Bs : Nat) (a : Option Addr) (cap : Nat) (J : List Int → World → Prop) (W : World) (hBs : W.cell? ⟨Bs, 0, none⟩ = some (.slice a 0 cap)) (h0 : J [] W) :
    CallsIn F n Tryz.prog 99 #[.func (.yield l) #[] #[], .pointer (some ⟨Bs, 0, none⟩)] W fun e W' => (∃ v, e = .returned v) ∧ J [] W' := by
  refine callsIn_of_wp Tryz.func99 rfl h7 ?_ hro
  simp only [Tryz.ntmps99, List.size_toArray, List.length_cons, List.length_nil, Nat.reduceAdd, Nat.reduceSub, Array.replicate_succ, Array.replicate_zero, List.push_toArray, List.append_toArray, List.nil_append, List.cons_append]
  gi_wp2
  gi_loopw [7] (fun i wr => i = .int .i64 0 ∧ J [] wr) (fun _ _ => 0)
  case atStart => exact ⟨rfl, h0⟩
  case round =>
    obtain ⟨rfl, hJs⟩ := hrel
    gi_wp2
    go_end0
    exact ⟨⟨_, rfl⟩, hJs⟩

/-- The slice a holds zs, in a block below n₀. -/
def IntsBelow (n₀ : Nat) (W : World) (a : Option Addr) (zs : List Int) : Prop := zs = [] ∨ ∃ b off, a = some ⟨b, off, none⟩ ∧ b < n₀ ∧ ∀ j, j < zs.length → W.cell? ⟨b, off + j, none⟩ = some (.int .i64 (zs[j]?.getD 0))
theorem IntsBelow.below {n₀ : Nat} {A B : World} (h : Below n₀ A B) {a : Option Addr} {zs : List Int} : IntsBelow n₀ A a zs → IntsBelow n₀ B a zs
  | .inl e => .inl e
  | .inr ⟨b, off, e, hb, hc⟩ => .inr ⟨b, off, e, hb, fun j hj => (h.cell (p := ⟨b, off + j, none⟩) hb).trans (hc j hj)⟩
theorem upto_take (zs : List Int) {k : Nat} (hk : k ≤ zs.length) : upto zs k = zs.take k := by
  apply List.ext_getElem
  · simp [upto, hk]
  · intro i h1 h2
    have : i < zs.length := by simp [upto] at h1; omega
    simp [upto, this]

theorem values_stops (F : Fence) (n : Nat) (h7 : F.fn 99) (hro : F.round = none) (hn : 1 ≤ n) (Bs n₀ : Nat) (a : Option Addr) (cap : Nat) (zs : List Int) (hreach : zs.length * 8 ≤ 140737488351232) (w : World) (hBs : Bs < w.heap.size) (hn₀ : n₀ ≤ w.heap.size)
    (hc : w.cell? ⟨Bs, 0, none⟩ = some (.slice a zs.length cap)) (hI : IntsBelow n₀ w a zs) :
    SeqStopsK F n Tryz.prog 99 #[.pointer (some ⟨Bs, 0, none⟩)] (fun x : Int => #[Value.int .i64 x]) (Below n₀) (fun ys => ys = zs) (fun pre => pre <+: zs) zs.length w := fun l J Jx W hW _ _ hY h0 => by
  have hc' := (hW.cell (p := ⟨Bs, 0, none⟩) hBs).trans hc
  rcases hI.below (hW.mono hn₀) with rfl | ⟨b, off, rfl, hb, hcs⟩
  · exact (vals_none F n h7 hro l Bs a cap J W hc' h0).mono fun e W' ⟨he, hj⟩ => ⟨he, .inl ⟨_, rfl, hj⟩⟩
  · refine (vals_some F n h7 hro hn l Bs n₀ b off zs.length cap zs hreach hb J Jx hY W hc' hcs h0).mono ?_
    rintro e W' ⟨he, ⟨ys, rfl, hj⟩ | ⟨pre, ⟨k, hk, rfl⟩, hj⟩⟩
    · exact ⟨he, .inl ⟨_, upto_all zs, hj⟩⟩
    · exact ⟨he, .inr ⟨_, by rw [upto_take zs hk]; exact List.take_prefix _ _, hj⟩⟩

theorem Tryz.infoI2 : (Tryz.prog.info? 3).map (fun i => (i.zero, i.size, i.bytes)) = some (some (.int .i64 0), 1, 8) := by kernel_rfl

set_option maxRecDepth 100000 in
set_option maxHeartbeats 2000000 in
/-- AppendSeq(nil, Values(..)): a new list of the same. -/
theorem appendSeq_in (F : Fence) (n : Nat) (h3 : F.fn 111) (h7 : F.fn 99) (hro : F.round = none) (hn : 3 ≤ n) (Bv : Nat) (a : Option Addr) (cap : Nat) (zs : List Int) (hbytes : zs.length * 8 ≤ 140737488351232) (w : World) (hBv : Bv < w.heap.size)
    (hc : w.cell? ⟨Bv, 0, none⟩ = some (.slice a zs.length cap)) (hI : IntsBelow w.heap.size w a zs) :
    CallsIn F n Tryz.prog 111 #[.slice none 0 0, .func (.func 99) #[] #[.pointer (some ⟨Bv, 0, none⟩)]] w fun e W' => ∃ v, e = .returned v ∧ W'.ownsRow w.heap.size 3 1 v zs.length (zs.map (Value.int .i64)) ∧ (v = .slice none 0 0 ↔ zs = []) ∧ Below w.heap.size w W' := by
  have h1 : 1 ≤ n := by omega
  obtain ⟨i0, hi, hz0, hz1, hz2⟩ := info_parts Tryz.infoI2
  refine callsIn_of_wp_marks Tryz.func111 rfl h3 ?_ hro
  simp only [Tryz.ntmps111, List.size_toArray, List.length_cons, List.length_nil, Nat.reduceAdd, Nat.reduceSub, Array.replicate_succ, Array.replicate_zero, List.push_toArray, List.append_toArray, List.nil_append, List.cons_append]
  gi_wp2_with fail
  have bO := Boxed.new w 32 (.slice none 0 0)
  have hB0 : Below w.heap.size w (w.alloc (.cells #[.slice none 0 0] 32)) := (Below.refl _ w).alloc (Nat.le_refl _) _
  refine wpIn_rangeFunc_ownG hro h1 (gf := 99) (lb := #[.pointer (some ⟨Bv, 0, none⟩)]) rfl h7 (enters_of Tryz.func99 (by kernel_rfl) rfl)
    (values_stops F (n - 1) h7 hro (by omega) Bv w.heap.size a cap zs hbytes _ (by simp; omega) (by simp) ((hB0.cell (p := ⟨Bv, 0, none⟩) hBv).trans hc) (hI.below hB0)) belowK_t (belowK_b (by simp)) (Below.refl _ _) (fun _ => rfl)
    (fun pre W => (∃ v, Boxed W w.heap.size 32 v ∧ W.ownsRow w.heap.size 3 1 v pre.length (pre.map (Value.int .i64)) ∧ (v = .slice none 0 0 ↔ pre = [])) ∧ Below w.heap.size w W)
    (fun _ _ _ => False)
    (OwnFrom.and (Own.from (holdsRow_own w.heap.size w.heap.size 32 3 1 (fun pre => pre.length) (fun pre => pre.map (Value.int .i64)) (fun pre v => v = .slice none 0 0 ↔ pre = [])) _) (ownFrom_below (Nat.le_refl _) (by simp)))
    (fun _ _ _ _ _ hs _ _ => hs)
    ⟨⟨_, bO, World.ownsRow_nil _ _ _ _, by simp⟩, hB0⟩
    (fun x => { tmps := #[.slice none 0 0, .func (.func 99) #[] #[.pointer (some ⟨Bv, 0, none⟩)], .pointer (some ⟨w.heap.size, 0, none⟩), undef, .slice none 0 0, .int .i64 x, .func (.func 99) #[] #[.pointer (some ⟨Bv, 0, none⟩)], .int .i64 x, undef, undef, undef, undef, undef], defers := [] }) ?assign ?body ?done ?stop
  case assign =>
    intro l x W K hK
    gi_wp2
    exact hK
  case body =>
    rintro l pre x W ⟨⟨v, hv, hrow, hnil⟩, hB⟩ hlt
    have hc := hv.cell
    gi_wp2_with (gi_at_builtin; refine wpListIn_append_own _ rfl _ _ 32 rfl w.heap.size 3 i0 (.int .i64 0) 1 8 Tryz.underlying32 hi hz0 hz1 hz2 rfl (by decide) _ _ _ rfl (hrow.alloc _) ⟨W.heap.size, 0, none⟩ 1 1 [.int .i64 x] rfl rfl (cell_one_new _ _ _) (by simp [Value.oneCell']) (by unfold maxLen; omega) (by omega) (by have := hB.size; simp; omega) ?_; intro v' w1 hown' hgrow _; obtain ⟨g', cap', rfl⟩ := ownsRow_succ hown'; obtain ⟨hv1, hv2, hr2, hk2, hb2⟩ := hv.appended (by decide) hrow hB.size (Nat.le_refl _) hown' hgrow; have hc1 := hv1.cell; have hf1 := hv1.frozen)
    exact ⟨hk2.from _, hb2, ⟨_, hv2, by simpa using hr2, by simp⟩, hB.trans hb2⟩
  case done =>
    rintro D ys W hD rfl ⟨⟨v, hv, hrow, hnil⟩, hB⟩ hK
    have hc := hv.cell
    gi_wp2
    refine ⟨by simp, .inl ⟨_, _, rfl, run_takeDeferred hK, ?_⟩⟩
    exact ⟨_, results_tmp rfl _ _ _, v, rfl, ownsRow_putObj hrow _ hK rfl, hnil, hB.trans (belowK_b (w := w) (Nat.le_refl _) W D _ _ (by simp at hD; omega) hK rfl rfl)⟩
  case stop =>
    rintro D c pre W _ _ h _
    exact h.elim
end Go.Proofs.YtdlibnjgmdffnaaGreat
namespace Go.Proofs
open Go.Shelf
def Tryz.lays189_ren : Go.Shelf.Ren := ⟨fun | 189 => 98 | 125 => 113 | 257 => 112 | 128 => 126 | 129 => 127 | 294 => 118 | 295 => 119 | 296 => 120 | 297 => 121 | 298 => 122 | 299 => 123 | 216 => 103 | 300 => 124 | 301 => 125 | 328 => 130 | 329 => 131 | 330 => 132 | 331 => 133 | 332 => 134 | 215 => 116 | 343 => 135 | n => n, fun | 28 => 32 | 3 => 3 | 46 => 148 | 0 => 0 | 51 => 170 | 53 => 31 | 4 => 4 | 183 => 164 | 182 => 163 | 131 => 112 | 5 => 5 | 9 => 9 | 218 => 175 | 222 => 179 | 228 => 181 | 229 => 61 | n => n, fun | n => n⟩
theorem Tryz.lays189 : Go.Proofs.Lays.n189 Tryz.prog Tryz.lays189_ren := {
  mixed := by kernel_rfl
  f125 := Tryz.func113.trans (congrArg some (by kernel_rfl))
  f128 := Tryz.func126.trans (congrArg some (by kernel_rfl))
  f129 := Tryz.func127.trans (congrArg some (by kernel_rfl))
  f189 := Tryz.func98.trans (congrArg some (by kernel_rfl))
  f215 := Tryz.func116.trans (congrArg some (by kernel_rfl))
  f216 := Tryz.func103.trans (congrArg some (by kernel_rfl))
  f257 := Tryz.func112.trans (congrArg some (by kernel_rfl))
  f294 := Tryz.func118.trans (congrArg some (by kernel_rfl))
  f295 := Tryz.func119.trans (congrArg some (by kernel_rfl))
  f296 := Tryz.func120.trans (congrArg some (by kernel_rfl))
  f297 := Tryz.func121.trans (congrArg some (by kernel_rfl))
  f298 := Tryz.func122.trans (congrArg some (by kernel_rfl))
  f299 := Tryz.func123.trans (congrArg some (by kernel_rfl))
  f300 := Tryz.func124.trans (congrArg some (by kernel_rfl))
  f301 := Tryz.func125.trans (congrArg some (by kernel_rfl))
  f328 := Tryz.func130.trans (congrArg some (by kernel_rfl))
  f329 := Tryz.func131.trans (congrArg some (by kernel_rfl))
  f330 := Tryz.func132.trans (congrArg some (by kernel_rfl))
  f331 := Tryz.func133.trans (congrArg some (by kernel_rfl))
  f332 := Tryz.func134.trans (congrArg some (by kernel_rfl))
  f343 := Tryz.func135.trans (congrArg some (by kernel_rfl))
  t0 := Tryz.underlying0
  a0 := Tryz.isAgg0
  z0 := Tryz.sizeOf0
  v0 := Tryz.zeroValue0
  t3 := Tryz.underlying3
  a3 := Tryz.isAgg3
  z3 := Tryz.sizeOf3
  v3 := Tryz.zeroValue3
  t4 := Tryz.underlying4
  a4 := Tryz.isAgg4
  z4 := Tryz.sizeOf4
  v4 := Tryz.zeroValue4
  t5 := Tryz.underlying5
  a5 := Tryz.isAgg5
  z5 := Tryz.sizeOf5
  v5 := Tryz.zeroValue5
  t9 := Tryz.underlying9
  a9 := Tryz.isAgg9
  z9 := Tryz.sizeOf9
  v9 := Tryz.zeroValue9
  t28 := Tryz.underlying32
  a28 := Tryz.isAgg32
  z28 := Tryz.sizeOf32
  v28 := Tryz.zeroValue32
  t46 := Tryz.underlying148
  a46 := Tryz.isAgg148
  z46 := Tryz.sizeOf148
  v46 := Tryz.zeroValue148
  t51 := Tryz.underlying170
  a51 := Tryz.isAgg170
  z51 := Tryz.sizeOf170
  v51 := Tryz.zeroValue170
  t53 := Tryz.underlying31
  a53 := Tryz.isAgg31
  z53 := Tryz.sizeOf31
  v53 := Tryz.zeroValue31
  t131 := Tryz.underlying112
  a131 := Tryz.isAgg112
  z131 := Tryz.sizeOf112
  v131 := Tryz.zeroValue112
  t182 := Tryz.underlying163
  a182 := Tryz.isAgg163
  z182 := Tryz.sizeOf163
  v182 := Tryz.zeroValue163
  t183 := Tryz.underlying164
  a183 := Tryz.isAgg164
  z183 := Tryz.sizeOf164
  v183 := Tryz.zeroValue164
  t218 := Tryz.underlying175
  a218 := Tryz.isAgg175
  z218 := Tryz.sizeOf175
  v218 := Tryz.zeroValue175
  t222 := Tryz.underlying179
  a222 := Tryz.isAgg179
  z222 := Tryz.sizeOf179
  v222 := Tryz.zeroValue179
  t228 := Tryz.underlying181
  a228 := Tryz.isAgg181
  z228 := Tryz.sizeOf181
  v228 := Tryz.zeroValue181
  t229 := Tryz.underlying61
  a229 := Tryz.isAgg61
  z229 := Tryz.sizeOf61
  v229 := Tryz.zeroValue61 }
open Go.Sort Go.RowKit in
theorem Tryz.slices_Sort_int (blk off cap : Nat) (zs : List Int) (w : World) (hH : Holds (Value.int .i64) w blk off zs.toArray) (hblk : blk < w.heap.size) (hsz : zs.length < 4611686018427387904) :
    Calls Tryz.prog 98 #[.slice (some ⟨blk, off, none⟩) zs.length cap] w fun e w' =>
      e = .returned (.tuple #[]) ∧ ∃ n os, w' = grow (putRow (Value.int .i64) (Sort.ahead w n) blk off (zs.mergeSort fun x y => decide (x ≤ y)).toArray) os := Any.slices_Sort_int Tryz.lays189 blk off cap zs w hH hblk hsz
open Go.RowKit Go.Sort in
theorem Tryz.slices_Sort_int_none (p : Option Addr) (cap : Nat) (w : World) :
    Calls Tryz.prog 98 #[.slice p 0 cap] w fun e w' => e = .returned (.tuple #[]) ∧ w' = w := Any.slices_Sort_int_none Tryz.lays189 p cap w
end Go.Proofs
