import Derived.Deep.RegionLaw
import Derived.Deep.AppendLies
import Derived.WalkSmall
import Derived.Test.YtgmcpjklgacdpaaRows
import Derived.RangeFuncBox
import Derived.RangeFuncLeaves
import Derived.RangeFuncWrites
import Derived.Shelf.Abstract
import Derived.WalkKit
import Derived.OwnWalkIn
import Derived.TacticsInMore
import Derived.LoopNIn
import Derived.LoopIn
import Derived.Maps.AppendAt
import Derived.Test.YtgmcpjklgacdpaaIn7
namespace Go.Proofs.Ytgmcpjklgacdpaa
open Go.RowKit Go.Shelf

/-- A builtin append whose run is known, in a region that draws. -/
theorem step_append_run {P : Program} {w : World} {ops : Array Oper} {o : Oper} {a : Act} {K : Act → World → Prop} {Q : Exit → Act → World → Prop} {E : Prop} (hgd : o.guard = none) (s x : Operand) (t : TypeId)
    (ho : o.op = .call { callee := .builtin .append, args := #[s, x], argTypes := #[t, t] }) {v u v' : Value} {w' : World} (hs : a.eval s = v) (hx : a.eval x = u)
    (hrun : ∀ ty, (Builtin.append_ #[t, t] ty #[v, u]).run P w = .ok v' w') (h : K (a.put o.dst v') w') :
    if Region.wanted o (yielded ops a.tmps) = true then Oper.wp P o a w K Q else E := by
  have hw : Region.wanted o (yielded ops a.tmps) = true := by simp [Region.wanted, hgd]
  rw [if_pos hw]
  unfold Oper.wp execOp
  simp only [ho, resolve, invoke, builtin, Sem.run_bind, Sem.run_pure, Result.andThen_ok, List.map_toArray, List.map_cons, List.map_nil, hs, hx, hrun]
  exact h

/-- A heap turned to another: its row may have moved. -/
def HeapTurned (w : World) (hb : Nat) (v : Value) (ys : List Int) (w' : World) : Prop :=
  ∃ v', HeapAt w' hb v' ys ∧ Keeps w w' (fun k => k = hb ∨ v.ownBlock = some k) ∧ (v'.ownBlock = v.ownBlock ∨ ∃ k, v'.ownBlock = some k ∧ w.heap.size ≤ k)

set_option maxRecDepth 100000 in
set_option maxHeartbeats 2000000 in
theorem low_push {w : World} {hb : Nat} {v : Value} {xs : List Int} (h : HeapAt w hb v xs) (x : Int) (hl : xs.length ≤ 134217728) :
    Calls Try.prog 129 #[.pointer (some ⟨hb, 0, none⟩), .iface 3 (.int .i64 x)] w fun e w' => e = .returned (.tuple #[]) ∧ HeapTurned w hb v (xs ++ [x]) w' := by
  have c0 := h.cell
  have cA : (w.alloc (.cells #[.int .i64 x] 3)).cell? ⟨hb, 0, none⟩ = some v := (h.keeps ((Keeps.refl w (fun _ => False)).alloc (.cells #[.int .i64 x] 3)) id (fun _ _ => id)).cell
  have k3 : Keeps w (w.drew.alloc (.cells #[cellI x] 3)) (fun _ => False) := ((Keeps.refl w (fun _ => False)).drewN 1).alloc _
  have h3 := h.keeps k3 id (fun _ _ => id)
  obtain ⟨g4, cap4, w4, hap, beg4, k4, hloc⟩ := append_one (P := Try.prog) 110 3 (.int .i64 0) 8 Try.underlying110 Try.infoI rfl h3.row (heap_alloc_new w.drew (.cells #[cellI x] 3)) rfl (by omega) (by unfold maxLen; omega) (Nat.zero_le _)
  have hp4 := (k4.block hb h3.lt (fun e => h3.ne e rfl)).trans h3.hp
  have c4 : w4.cell? ⟨hb, 0, none⟩ = some v := cell_of_one hp4
  have f4 : w4.frozen? ⟨hb, 0, none⟩ = false := free_of_one hp4
  have hfin : HeapTurned w hb v (xs ++ [x]) (w4.setCell ⟨hb, 0, none⟩ (.slice (some ⟨g4, 0, none⟩) (xs.length + 1) cap4)) := by
    have hsz : w.heap.size ≤ w.drew.heap.size := Nat.le_refl _
    have hne : hb ≠ g4 := fun e => by
      rcases hloc with e2 | e2
      · exact h.ne e2 e
      · have := h3.lt
        have := h.lt
        simp at e2
        have : g4 = w.heap.size + 1 := e2
        omega
    refine ⟨.slice (some ⟨g4, 0, none⟩) (xs.length + 1) cap4, ⟨one_setCell hp4, ?_⟩, ?_, ?_⟩
    · have := ownsRow_setCell_other beg4 (a := ⟨hb, 0, none⟩) (by simp [Value.ownBlock]; exact fun e => hne e.symm) (.slice (some ⟨g4, 0, none⟩) (xs.length + 1) cap4)
      simpa using this
    · exact ((k3.mono (S1 := fun k => k = hb ∨ v.ownBlock = some k) (fun _ _ e => e.elim)).trans k4 (fun _ _ e => Or.inr e)).setCell _ (fun _ => Or.inl rfl) _
    · rcases hloc with e | e
      · exact Or.inl (by rw [e]; rfl)
      · refine Or.inr ⟨g4, rfl, ?_⟩
        simp at e
        have : g4 = w.heap.size + 1 := e
        omega
  have HF := hide hfin
  clear hfin h h3 k3 k4 beg4 hloc hp4
  have hta : ∀ w', Sem.run Try.prog (Instr.typeAssert (.iface 3 (.int .i64 x)) 20 3 false) w' = .ok (.int .i64 x) w' := fun _ => by kernel_rfl
  unfold cellI at hap
  go_enter Try.func129, Try.ntmps129
  go_wp2
  go_region_law (refine step_append_run (by rfl) _ _ 110 (by rfl) (by rfl) (by rfl) hap ?_)
  all_goals (try go_wp2)
  all_goals go_end0
  all_goals exact ⟨rfl, HF.out⟩
end Go.Proofs.Ytgmcpjklgacdpaa
namespace Go.Proofs.Ytgmcpjklgacdpaa
open Go.RowKit Go.Shelf

set_option maxRecDepth 100000 in
set_option maxHeartbeats 2000000 in
theorem low_pop {w : World} {hb : Nat} {v : Value} {ys : List Int} {m : Int} (h : HeapAt w hb v (ys ++ [m])) (hl : ys.length ≤ 134217728) :
    Calls Try.prog 128 #[.pointer (some ⟨hb, 0, none⟩)] w fun e w' => e = .returned (.iface 3 (.int .i64 m)) ∧ HeapTurned w hb v ys w' := by
  have c0 := h.cell
  have f0 := h.frozen
  obtain ⟨g, cap, hv, hcap, hm, hc, _⟩ := h.form (by simp)
  have hlen : (ys ++ [m]).length = ys.length + 1 := by simp
  rw [hlen] at hv hcap
  subst hv
  have cm := hc ys.length (by simp)
  have hat : at0 (ys ++ [m]) ys.length = m := by simp [at0]
  rw [hat] at cm
  unfold maxLen at hm
  have hfin : HeapTurned w hb (.slice (some ⟨g, 0, none⟩) (ys.length + 1) cap) ys (w.setCell ⟨hb, 0, none⟩ (.slice (some ⟨g, 0, none⟩) ys.length cap)) := by
    have hne : hb ≠ g := h.ne rfl
    have hr := h.row
    rw [hlen, List.map_append] at hr
    have hr2 := ownsRow_pop (by simp) hr
    refine ⟨_, ⟨one_setCell h.hp, ownsRow_setCell_other hr2 (a := ⟨hb, 0, none⟩) (by simp [Value.ownBlock]; exact fun e => hne e.symm) _⟩, ?_, Or.inl rfl⟩
    exact (Keeps.refl w (fun k => k = hb ∨ (Value.slice (some ⟨g, 0, none⟩) (ys.length + 1) cap).ownBlock = some k)).setCell _ (fun _ => Or.inl rfl) _
  have HF := hide hfin
  have HH := hide h
  clear hfin h hc hat hlen
  go_enter Try.func128, Try.ntmps128
  go_wp2
  go_ret
  exact ⟨rfl, HF.out⟩
end Go.Proofs.Ytgmcpjklgacdpaa
namespace Go.Proofs.Ytgmcpjklgacdpaa
open Go.RowKit Go.Shelf

abbrev lowP (hb : Nat) : Value := .pointer (some ⟨hb, 0, none⟩)
theorem reach_less (hb : Nat) (w : World) : Sem.run Try.prog (method (Try.prog.types.size + 100) 109 (.pointer (some ⟨hb, 0, none⟩)) "Less") w = .ok (127, .pointer (some ⟨hb, 0, none⟩)) w := by kernel_rfl
theorem reach_swap (hb : Nat) (w : World) : Sem.run Try.prog (method (Try.prog.types.size + 100) 109 (.pointer (some ⟨hb, 0, none⟩)) "Swap") w = .ok (130, .pointer (some ⟨hb, 0, none⟩)) w := by kernel_rfl
theorem reach_len (hb : Nat) (w : World) : Sem.run Try.prog (method (Try.prog.types.size + 100) 109 (.pointer (some ⟨hb, 0, none⟩)) "Len") w = .ok (82, .pointer (some ⟨hb, 0, none⟩)) w := by kernel_rfl
theorem reach_push (hb : Nat) (w : World) : Sem.run Try.prog (method (Try.prog.types.size + 100) 109 (.pointer (some ⟨hb, 0, none⟩)) "Push") w = .ok (129, .pointer (some ⟨hb, 0, none⟩)) w := by kernel_rfl
theorem reach_pop (hb : Nat) (w : World) : Sem.run Try.prog (method (Try.prog.types.size + 100) 109 (.pointer (some ⟨hb, 0, none⟩)) "Pop") w = .ok (128, .pointer (some ⟨hb, 0, none⟩)) w := by kernel_rfl
theorem ent_less : Enters Try.prog 127 := enters_of Try.func127 (by kernel_rfl) rfl
theorem ent_swap : Enters Try.prog 130 := enters_of Try.func130 (by kernel_rfl) rfl
theorem ent_len : Enters Try.prog 82 := enters_of Try.func82 (by kernel_rfl) rfl
theorem ent_push : Enters Try.prog 129 := enters_of Try.func129 (by kernel_rfl) rfl
theorem ent_pop : Enters Try.prog 128 := enters_of Try.func128 (by kernel_rfl) rfl

def UpPost (w : World) (hb : Nat) (v : Value) (xs : List Int) (e : Ending) (w' : World) : Prop := e = .returned (.tuple #[]) ∧ ∃ ys : List Int, ys.Perm xs ∧ Heapy ys.length ys ∧ HeapAt w' hb v ys ∧ Keeps w w' (fun k => v.ownBlock = some k)
def UpRel (w : World) (hb : Nat) (v : Value) (xs : List Int) (j : Nat) (wr : World) : Prop := ∃ ys : List Int, j < ys.length ∧ ys.Perm xs ∧ UpInv ys j ∧ HeapAt wr hb v ys ∧ Keeps w wr (fun k => v.ownBlock = some k)

set_option maxRecDepth 100000 in
set_option maxHeartbeats 2000000 in
theorem heap_up {w : World} {hb : Nat} {v : Value} {xs : List Int} {j0 : Nat} (h : UpRel w hb v xs j0 w) (hl : xs.length ≤ 134217728) :
    Calls Try.prog 80 #[.iface 109 (.pointer (some ⟨hb, 0, none⟩)), .int .i64 (j0 : Int)] w fun e w' => UpPost w hb v xs e w' := by
  have mL := reach_less hb
  have mS := reach_swap hb
  have eL := ent_less
  have eS := ent_swap
  unfold Enters at eL eS
  have H0 := hide h
  clear h
  go_enter Try.func80, Try.ntmps80
  go_wp2
  go_loopw [1] (fun vj wr => ∃ j : Nat, vj = .int .i64 (j : Int) ∧ UpRel w hb v xs j wr) (fun vj _ => (intOf vj).toNat)
  case atStart => exact ⟨j0, rfl, H0.out⟩
  case round =>
    obtain ⟨j, rfl, ys, hj, hperm, hinv, hat, hk⟩ := hrel
    have hlen := hperm.length_eq
    have P0 := hide hperm
    have I0 := hide hinv
    clear hperm hinv
    rcases Nat.eq_zero_or_pos j with hz | hpos
    · subst hz
      have hfin : UpPost w hb v xs (.returned (.tuple #[])) wr := ⟨rfl, ys, P0.out, I0.out.stop (Or.inl rfl), hat, hk⟩
      have HF := hide hfin
      clear hfin hat hk hlen hj I0 P0 H0
      go_wp2_with fail
      go_end0
      exact HF.out
    · obtain ⟨i, hi⟩ : ∃ i, i = (j - 1) / 2 := ⟨_, rfl⟩
      have hij : i < j := by omega
      have hil : i < ys.length := by omega
      have hq : Int.tdiv ((j : Int) - 1) 2 = (i : Int) := by
        rw [Int.tdiv_eq_ediv_of_nonneg (by omega)]
        omega
      have hne : ((i : Int) == (j : Int)) = false := by simp; omega
      have hbl : j ≤ 134217728 := by omega
      have hL := low_less hat j i hj hil (by omega)
      by_cases hlt : at0 ys j < at0 ys i
      · have hstep : Hid (∀ q, Calls Try.prog 130 #[.pointer (some ⟨hb, 0, none⟩), .int .i64 (i : Int), .int .i64 (j : Int)] (wr.drewN q) fun e w' => e = .returned (.tuple #[]) ∧ UpRel w hb v xs i w') := fun q => by
          have kq : Keeps wr (wr.drewN q) (fun _ => False) := (Keeps.refl wr _).drewN q
          refine (low_swap (hat.keeps kq id (fun _ _ => id)) i j hil hj (by omega)).mono ?_
          rintro e w' ⟨rfl, h1, h2⟩
          refine ⟨rfl, sw ys i j, by rw [sw_length]; exact hil, (sw_perm hil hj).trans P0.out, ?_, h1, (hk.trans kq (fun _ _ e => e.elim)).trans h2 (fun _ _ e => e)⟩
          subst hi
          exact I0.out.step hj hpos hlt
        rw [decide_eq_true hlt] at hL
        clear hat hk hlen hj I0 P0 H0 hlt hil hi
        go_wp2_with fail
        refine hL.mono ?_
        rintro e w1 ⟨rfl, q, rfl⟩
        have hS := hstep.out q
        clear hL hstep
        go_wp2_with fail
        refine hS.mono ?_
        rintro e w2 ⟨rfl, hr⟩
        have HR := hide hr
        clear hS hr
        go_wp2_with fail
        exact ⟨⟨i, rfl, HR.out⟩, by simp [intOf]; omega⟩
      · have hfin : ∀ q, UpPost w hb v xs (.returned (.tuple #[])) (wr.drewN q) := fun q => by
          have kq : Keeps wr (wr.drewN q) (fun _ => False) := (Keeps.refl wr _).drewN q
          refine ⟨rfl, ys, P0.out, I0.out.stop (Or.inr ?_), hat.keeps kq id (fun _ _ => id), hk.trans kq (fun _ _ e => e.elim)⟩
          subst hi
          omega
        have HF := hide hfin
        rw [decide_eq_false hlt] at hL
        clear hfin hat hk hlen hj I0 P0 H0 hlt hil hi
        go_wp2_with fail
        refine hL.mono ?_
        rintro e w1 ⟨rfl, q, rfl⟩
        clear hL
        go_wp2_with fail
        go_end0
        exact HF.out q
end Go.Proofs.Ytgmcpjklgacdpaa
namespace Go.Proofs.Ytgmcpjklgacdpaa
open Go.RowKit Go.Shelf

def PushPost (w : World) (hb : Nat) (v : Value) (xs : List Int) (e : Ending) (w' : World) : Prop := e = .returned (.tuple #[]) ∧ ∃ ys : List Int, ys.Perm xs ∧ Heapy ys.length ys ∧ HeapTurned w hb v ys w'

theorem HeapTurned.then {w w1 w2 : World} {hb : Nat} {v v1 : Value} {ys : List Int} (k1 : Keeps w w1 (fun k => k = hb ∨ v.ownBlock = some k)) (l1 : v1.ownBlock = v.ownBlock ∨ ∃ k, v1.ownBlock = some k ∧ w.heap.size ≤ k)
    (h2 : HeapAt w2 hb v1 ys) (k2 : Keeps w1 w2 (fun k => v1.ownBlock = some k)) : HeapTurned w hb v ys w2 := by
  refine ⟨v1, h2, k1.trans k2 (fun i hi e => ?_), l1⟩
  rcases l1 with l | ⟨k, l, hk⟩
  · exact Or.inr (l ▸ e)
  · rw [l] at e
    cases e
    omega

set_option maxRecDepth 100000 in
set_option maxHeartbeats 2000000 in
theorem heap_push {w : World} {hb : Nat} {v : Value} {xs : List Int} (h : HeapAt w hb v xs) (hh : Heapy xs.length xs) (x : Int) (hl : xs.length < 134217728) :
    Calls Try.prog 61 #[.iface 109 (.pointer (some ⟨hb, 0, none⟩)), .iface 3 (.int .i64 x)] w fun e w' => PushPost w hb v (xs ++ [x]) e w' := by
  have mP := reach_push hb
  have mL := reach_len hb
  have eP := ent_push
  have eL := ent_len
  unfold Enters at eP eL
  have hP := low_push h x (by omega)
  clear h
  go_enter Try.func61, Try.ntmps61
  go_wp2_with fail
  refine hP.mono ?_
  rintro e w1 ⟨rfl, v1, h1, k1, l1⟩
  clear hP
  have hL := low_len h1
  have hlen : (((xs ++ [x]).length : Nat) : Int) = (xs.length : Int) + 1 := by simp
  rw [hlen] at hL
  have hU : Hid (Calls Try.prog 80 #[.iface 109 (.pointer (some ⟨hb, 0, none⟩)), .int .i64 (xs.length : Int)] w1 fun e w' => PushPost w hb v (xs ++ [x]) e w') := by
    refine (heap_up (xs := xs ++ [x]) (j0 := xs.length) ⟨xs ++ [x], by simp, List.Perm.refl _, UpInv.start hh, h1, Keeps.refl _ _⟩ (by simp; omega)).mono ?_
    rintro e w2 ⟨rfl, ys, p2, hy, h2, k2⟩
    exact ⟨rfl, ys, p2, hy, HeapTurned.then k1 l1 h2 k2⟩
  clear h1 k1 l1 hlen hh
  go_wp2_with fail
  refine hL.mono ?_
  rintro e w2 ⟨rfl, rfl⟩
  have hU := hU.out
  clear hL
  go_wp2_with fail
  refine hU.mono ?_
  intro e w3 hp
  have he := hp.1
  subst he
  have HP := hide hp
  clear hU hp
  go_wp2_with fail
  go_end0
  exact HP.out
end Go.Proofs.Ytgmcpjklgacdpaa
/-
  A block is laid among the free ones: the data.
-/
namespace Go.Proofs.Ytgmcpjklgacdpaa
open Go.RowKit Go.Shelf

def AD.freed (d : AD) (x : Int) (ys : List Int) : AD := { d with fm := upd d.fm x (some ys) }
def fupd (fv : Int → Value) (x : Int) (v : Value) : Int → Value := fun y => if y = x then v else fv y
theorem fupd_same (fv : Int → Value) (x : Int) (v : Value) : fupd fv x v x = v := by simp [fupd]
theorem fupd_other (fv : Int → Value) (x y : Int) (v : Value) (h : y ≠ x) : fupd fv x v y = fv y := by simp [fupd, h]

/-- A heap's head is no row. -/
theorem HeapAt.row_ne {w : World} {b b' : Nat} {v v' : Value} {xs xs' : List Int} (h : HeapAt w b v xs) (h' : HeapAt w b' v' xs') : v.ownBlock ≠ some b' := fun e => by
  obtain ⟨cur, hc⟩ := own_obj h.row e
  exact ne_of_obj h'.hp hc (by simp) rfl

/-- A heap has turned. -/
theorem ArenaAt.heap_turned' {w w' : World} {p : Nat} {c : AR} {d : AD} (h : ArenaAt w p c d) {x : Int} {b : Nat} (hb : c.hb x = some b) {ys : List Int} (hy : Heapy ys.length ys) (ht : HeapTurned w b (c.fv x) ys w') :
    ∃ v', (∀ zs : List Int, ys.Perm zs → ArenaAt w' p { c with fv := fupd c.fv x v' } (d.freed x zs)) ∧ Keeps w w' (c.foot p) ∧ ∀ k, ({ c with fv := fupd c.fv x v' } : AR).foot p k → c.foot p k ∨ w.heap.size ≤ k := by
  obtain ⟨v', h1, k1, l1⟩ := ht
  obtain ⟨xs, ys0, hxs, _, ha, _⟩ := h.heaps.some_of hb
  have hS : ∀ k, (k = b ∨ (c.fv x).ownBlock = some k) → heapsFoot c.hb c.fv k := fun k hk => ⟨x, b, hb, hk⟩
  have hne : ∀ k, (k = b ∨ (c.fv x).ownBlock = some k) → k ≠ p ∧ k ≠ c.b ∧ k ≠ c.g ∧ k ≠ c.bl ∧ k ≠ c.bf ∧ c.v.ownBlock ≠ some k := fun k hk => h.heap_ne (hS k hk)
  have hnew : ∀ k, v'.ownBlock = some k → (c.fv x).ownBlock = some k ∨ w.heap.size ≤ k := fun k hk => by
    rcases l1 with e | ⟨k', e, hk'⟩
    · exact Or.inl (e ▸ hk)
    · rw [e] at hk
      cases hk
      exact Or.inr hk'
  have hlt : ∀ k, heapsFoot c.hb c.fv k → k < w.heap.size := fun k hk => h.foot_lt (Or.inr (Or.inr (Or.inr (Or.inr (Or.inr (Or.inr hk))))))
  have hvlt : ∀ k, c.v.ownBlock = some k → k < w.heap.size := fun k hk => h.foot_lt (Or.inr (Or.inr (Or.inr (Or.inr (Or.inr (Or.inl hk))))))
  refine ⟨v', fun zs hyz => ⟨?_, ?_, ?_, ?_, ?_, h.hlf, ?_, ?_, ?_, ?_⟩, k1.mono (fun i _ e => Or.inr (Or.inr (Or.inr (Or.inr (Or.inr (Or.inr (hS i e))))))), ?_⟩
  · exact (k1.block p (heap_lt h.hp) (fun e => (hne p e).1 rfl)).trans h.hp
  · exact h.mem.keeps k1 (fun e => (hne _ e).2.1 rfl) (fun e => (hne _ e).2.2.1 rfl)
  · exact ownsRow_keeps h.beg k1 (fun k hk e => (hne k e).2.2.2.2.2 hk)
  · exact h.live.keeps k1 (fun e => (hne _ e).2.2.2.1 rfl)
  · exact h.free.keeps k1 (fun e => (hne _ e).2.2.2.2.1 rfl)
  · intro y
    show (c.hb y).isSome = (upd d.fm x (some zs) y).isSome
    by_cases e : y = x
    · subst e
      rw [upd_same, hb]
      rfl
    · rw [upd_other _ _ _ _ e]
      exact h.heaps.dom y
  · intro y b' ts hb0 hz0
    have hz : upd d.fm x (some zs) y = some ts := hz0
    have hb' : c.hb y = some b' := hb0
    show ∃ us : List Int, us.Perm ts ∧ HeapAt w' b' (fupd c.fv x v' y) us ∧ Heapy us.length us
    clear hz0 hb0
    by_cases e : y = x
    · subst e
      rw [upd_same] at hz
      cases hz
      rw [hb] at hb'
      cases hb'
      rw [fupd_same]
      exact ⟨ys, hyz, h1, hy⟩
    · rw [upd_other _ _ _ _ e] at hz
      rw [fupd_other _ _ _ _ e]
      have hap := h.heaps.apart y x b' b e hb' hb
      obtain ⟨us, g1, g2, g3⟩ := h.heaps.heap y b' ts hb' hz
      refine ⟨us, g1, g2.keeps k1 (fun e1 => ?_) (fun k hk e1 => ?_), g3⟩
      · rcases e1 with e1 | e1
        · exact hap.1 e1
        · exact ha.row_ne g2 e1
      · rcases e1 with e1 | e1
        · subst e1
          exact g2.row_ne ha hk
        · exact hap.2 k hk e1
  · intro y b' k hb' hk
    have hb' : c.hb y = some b' := hb'
    have hk : (fupd c.fv x v' y).ownBlock = some k := hk
    by_cases e : y = x
    · subst e
      rw [fupd_same] at hk
      rcases hnew k hk with e1 | e1
      · exact h.heaps.row y b' k hb' e1
      · exact fun e2 => by have := hvlt k e2; omega
    · rw [fupd_other _ _ _ _ e] at hk
      exact h.heaps.row y b' k hb' hk
  · intro y z b1 b2 hyz hb1 hb2
    have hb1 : c.hb y = some b1 := hb1
    have hb2 : c.hb z = some b2 := hb2
    have hap := h.heaps.apart y z b1 b2 hyz hb1 hb2
    refine ⟨hap.1, fun k hk0 hk20 => ?_⟩
    have hk : (fupd c.fv x v' y).ownBlock = some k := hk0
    have hk2 : (fupd c.fv x v' z).ownBlock = some k := hk20
    clear hk0 hk20
    by_cases e : y = x
    · subst e
      rw [fupd_same] at hk
      rw [fupd_other _ _ _ _ (fun e => hyz e.symm)] at hk2
      rcases hnew k hk with e1 | e1
      · exact hap.2 k e1 hk2
      · have := hlt k ⟨z, b2, hb2, Or.inr hk2⟩
        omega
    · rw [fupd_other _ _ _ _ e] at hk
      by_cases e2 : z = x
      · subst e2
        rw [fupd_same] at hk2
        rcases hnew k hk2 with e1 | e1
        · exact hap.2 k hk e1
        · have := hlt k ⟨y, b1, hb1, Or.inr hk⟩
          omega
      · rw [fupd_other _ _ _ _ e2] at hk2
        exact hap.2 k hk hk2
  · intro k hk
    rcases hk with e | e | e | e | e | e | ⟨y, b', hb', hk⟩
    · exact Or.inl (Or.inl e)
    · exact Or.inl (Or.inr (Or.inl e))
    · exact Or.inl (Or.inr (Or.inr (Or.inl e)))
    · exact Or.inl (Or.inr (Or.inr (Or.inr (Or.inl e))))
    · exact Or.inl (Or.inr (Or.inr (Or.inr (Or.inr (Or.inl e)))))
    · exact Or.inl (Or.inr (Or.inr (Or.inr (Or.inr (Or.inr (Or.inl e))))))
    · have hb' : c.hb y = some b' := hb'
      have hk : k = b' ∨ (fupd c.fv x v' y).ownBlock = some k := hk
      have hin : ∀ k, heapsFoot c.hb c.fv k → c.foot p k := fun k hk => Or.inr (Or.inr (Or.inr (Or.inr (Or.inr (Or.inr hk)))))
      rcases hk with e | e
      · exact Or.inl (hin _ ⟨y, b', hb', Or.inl e⟩)
      · by_cases e2 : y = x
        · subst e2
          rw [fupd_same] at e
          rcases hnew k e with e1 | e1
          · exact Or.inl (hin _ ⟨y, b', hb', Or.inr e1⟩)
          · exact Or.inr e1
        · rw [fupd_other _ _ _ _ e2] at e
          exact Or.inl (hin _ ⟨y, b', hb', Or.inr e⟩)

/-- A new heap, still empty. -/
theorem ArenaAt.heap_new {w w' : World} {p : Nat} {c : AR} {d : AD} (h : ArenaAt w p c d) {x : Int} (hx : d.fm x = none) {b : Nat} {v' : Value} {nf : Nat} (k1 : Keeps w w' (fun i => i = c.bf)) (hf : MapTo Try.prog cPtr w' c.bf nf (upd c.hb x (some b)))
    (hb : HeapAt w' b v' []) (hbn : w.heap.size ≤ b) (hvn : ∀ k, v'.ownBlock = some k → w.heap.size ≤ k) :
    ArenaAt w' p { c with nf := nf, hb := upd c.hb x (some b), fv := fupd c.fv x v' } (d.freed x []) ∧ Keeps w w' (c.foot p) ∧ ∀ k, ({ c with nf := nf, hb := upd c.hb x (some b), fv := fupd c.fv x v' } : AR).foot p k → c.foot p k ∨ w.heap.size ≤ k := by
  have hlt : ∀ k, heapsFoot c.hb c.fv k → k < w.heap.size := fun k hk => h.foot_lt (Or.inr (Or.inr (Or.inr (Or.inr (Or.inr (Or.inr hk))))))
  have hvlt : ∀ k, c.v.ownBlock = some k → k < w.heap.size := fun k hk => h.foot_lt (Or.inr (Or.inr (Or.inr (Or.inr (Or.inr (Or.inl hk))))))
  have hnone := h.heaps.none_of hx
  refine ⟨⟨?_, ?_, ?_, ?_, hf, h.hlf, ?_, ?_, ?_, ?_⟩, k1.mono (fun i _ e => Or.inr (Or.inr (Or.inr (Or.inr (Or.inl e))))), ?_⟩
  · exact (k1.block p (heap_lt h.hp) h.p_bf).trans h.hp
  · exact h.mem.keeps k1 h.bf_b.symm h.bf_g.symm
  · exact ownsRow_keeps h.beg k1 (fun k hk e => h.bf_v hk e.symm)
  · exact h.live.keeps k1 h.hlf
  · intro y
    show (upd c.hb x (some b) y).isSome = (upd d.fm x (some []) y).isSome
    by_cases e : y = x
    · subst e
      rw [upd_same, upd_same]
      rfl
    · rw [upd_other _ _ _ _ e, upd_other _ _ _ _ e]
      exact h.heaps.dom y
  · intro y b' zs hb0 hz0
    have hz : upd d.fm x (some []) y = some zs := hz0
    have hb' : upd c.hb x (some b) y = some b' := hb0
    show ∃ us : List Int, us.Perm zs ∧ HeapAt w' b' (fupd c.fv x v' y) us ∧ Heapy us.length us
    clear hz0 hb0
    by_cases e : y = x
    · subst e
      rw [upd_same] at hz hb'
      cases hz
      cases hb'
      rw [fupd_same]
      exact ⟨[], List.Perm.refl _, hb, fun k _ hk => by simp at hk⟩
    · rw [upd_other _ _ _ _ e] at hz hb'
      rw [fupd_other _ _ _ _ e]
      obtain ⟨us, g1, g2, g3⟩ := h.heaps.heap y b' zs hb' hz
      exact ⟨us, g1, g2.keeps k1 (fun e1 => (h.heap_ne ⟨y, b', hb', Or.inl rfl⟩).2.2.2.2.1 e1) (fun k hk e1 => (h.heap_ne ⟨y, b', hb', Or.inr hk⟩).2.2.2.2.1 e1), g3⟩
  · intro y b' k hb0 hk0
    have hb' : upd c.hb x (some b) y = some b' := hb0
    have hk : (fupd c.fv x v' y).ownBlock = some k := hk0
    clear hb0 hk0
    by_cases e : y = x
    · subst e
      rw [fupd_same] at hk
      exact fun e2 => by have := hvlt k e2; have := hvn k hk; omega
    · rw [fupd_other _ _ _ _ e] at hk
      rw [upd_other _ _ _ _ e] at hb'
      exact h.heaps.row y b' k hb' hk
  · intro y z b1 b2 hyz hb10 hb20
    have hb1 : upd c.hb x (some b) y = some b1 := hb10
    have hb2 : upd c.hb x (some b) z = some b2 := hb20
    show b1 ≠ b2 ∧ ∀ k, (fupd c.fv x v' y).ownBlock = some k → (fupd c.fv x v' z).ownBlock ≠ some k
    clear hb10 hb20
    by_cases e : y = x
    · subst e
      have hzy : z ≠ y := fun e => hyz e.symm
      rw [upd_same] at hb1
      rw [upd_other _ _ _ _ hzy] at hb2
      rw [fupd_same, fupd_other _ _ _ _ hzy]
      cases hb1
      refine ⟨fun e => ?_, fun k hk hk2 => ?_⟩
      · have := hlt b2 ⟨z, b2, hb2, Or.inl rfl⟩
        omega
      · have := hlt k ⟨z, b2, hb2, Or.inr hk2⟩
        have := hvn k hk
        omega
    · rw [upd_other _ _ _ _ e] at hb1
      rw [fupd_other _ _ _ _ e]
      by_cases e2 : z = x
      · subst e2
        rw [upd_same] at hb2
        rw [fupd_same]
        cases hb2
        refine ⟨fun e => ?_, fun k hk hk2 => ?_⟩
        · have := hlt b1 ⟨y, b1, hb1, Or.inl rfl⟩
          omega
        · have := hlt k ⟨y, b1, hb1, Or.inr hk⟩
          have := hvn k hk2
          omega
      · rw [upd_other _ _ _ _ e2] at hb2
        rw [fupd_other _ _ _ _ e2]
        exact h.heaps.apart y z b1 b2 hyz hb1 hb2
  · intro k hk
    have hin : ∀ k, heapsFoot c.hb c.fv k → c.foot p k := fun k hk => Or.inr (Or.inr (Or.inr (Or.inr (Or.inr (Or.inr hk)))))
    rcases hk with e | e | e | e | e | e | ⟨y, b', hb0, hk0⟩
    · exact Or.inl (Or.inl e)
    · exact Or.inl (Or.inr (Or.inl e))
    · exact Or.inl (Or.inr (Or.inr (Or.inl e)))
    · exact Or.inl (Or.inr (Or.inr (Or.inr (Or.inl e))))
    · exact Or.inl (Or.inr (Or.inr (Or.inr (Or.inr (Or.inl e)))))
    · exact Or.inl (Or.inr (Or.inr (Or.inr (Or.inr (Or.inr (Or.inl e))))))
    · have hb' : upd c.hb x (some b) y = some b' := hb0
      have hk : k = b' ∨ (fupd c.fv x v' y).ownBlock = some k := hk0
      clear hb0 hk0
      by_cases e : y = x
      · subst e
        rw [upd_same] at hb'
        rw [fupd_same] at hk
        cases hb'
        rcases hk with e | e
        · exact Or.inr (by omega)
        · exact Or.inr (hvn k e)
      · rw [upd_other _ _ _ _ e] at hb'
        rw [fupd_other _ _ _ _ e] at hk
        exact Or.inl (hin _ ⟨y, b', hb', hk⟩)
end Go.Proofs.Ytgmcpjklgacdpaa
namespace Go.Proofs.Ytgmcpjklgacdpaa
open Go.RowKit Go.Shelf

def LeavePost (w : World) (p : Nat) (c : AR) (d : AD) (off n : Int) (e : Ending) (w' : World) : Prop :=
  e = .returned (.tuple #[]) ∧ ∃ c', (∀ zs : List Int, zs.Perm ((d.fm n).getD [] ++ [off]) → ArenaAt w' p c' (d.freed n zs)) ∧ Keeps w w' (c.foot p) ∧ ∀ k, c'.foot p k → c.foot p k ∨ w.heap.size ≤ k

/-- The call of heap.Push. -/
theorem push_at {w : World} {p : Nat} {c : AR} {d : AD} (h : ArenaAt w p c d) {n : Int} {b : Nat} {xs : List Int} (hb : c.hb n = some b) (hx : d.fm n = some xs) (off : Int) (hl : xs.length < 134217728) :
    Calls Try.prog 61 #[.iface 109 (.pointer (some ⟨b, 0, none⟩)), .iface 3 (.int .i64 off)] w fun e w' => LeavePost w p c d off n e w' := by
  obtain ⟨us, hu, ha, hh⟩ := h.heaps.heap n b xs hb hx
  refine (heap_push ha hh off (by rw [hu.length_eq]; exact hl)).mono ?_
  rintro e w' ⟨rfl, ys, hp, hy, ht⟩
  obtain ⟨v', h1, h2, h3⟩ := h.heap_turned' hb hy ht
  refine ⟨rfl, _, fun zs hz => h1 zs ?_, h2, h3⟩
  rw [hx] at hz
  exact (hp.trans (hu.append_right _)).trans hz.symm

set_option maxHeartbeats 1000000 in
theorem leave_old {w : World} {p : Nat} {c : AR} {d : AD} (h : ArenaAt w p c d) (off n : Int) (hn : fitsI n) {xs : List Int} (hx : d.fm n = some xs) (hl : xs.length < 134217728) :
    Calls Try.prog 38 #[.pointer (some ⟨p, 0, none⟩), .int .i64 off, .int .i64 n] w fun e w' => LeavePost w p c d off n e w' := by
  obtain ⟨b, _, hb, _⟩ := h.heaps.block_of hx
  have c5 := h.cell5
  have hlk := look_ptr (w := w) Try.underlying3 Try.underlying83 (Try.zeroP w) h.free hn
  rw [hb] at hlk
  simp only [Option.map_some] at hlk
  have hP := push_at h hb hx off hl
  clear h
  go_enter Try.func38, Try.ntmps38
  go_wp2_with fail
  refine hP.mono ?_
  intro e w1 hp
  have he := hp.1
  subst he
  have HP := hide hp
  clear hP hp
  go_wp2_with fail
  go_end0
  exact HP.out

set_option maxRecDepth 100000 in
set_option maxHeartbeats 1000000 in
theorem leave_new {w : World} {p : Nat} {c : AR} {d : AD} (h : ArenaAt w p c d) (off n : Int) (hn : fitsI n) (hx : d.fm n = none) (hnf : c.nf < 4294967296) :
    Calls Try.prog 38 #[.pointer (some ⟨p, 0, none⟩), .int .i64 off, .int .i64 n] w fun e w' => LeavePost w p c d off n e w' := by
  have hb := h.heaps.none_of hx
  have c5 := h.cell5
  have hlk := look_ptr (w := w) Try.underlying3 Try.underlying83 (Try.zeroP w) h.free hn
  rw [hb] at hlk
  simp only [Option.map_none] at hlk
  have ka : Keeps w ((w.alloc (.cells #[] 3)).alloc (.cells #[.slice (some ⟨w.heap.size, 0, none⟩) 0 0] 110)) (fun _ => False) := ((Keeps.refl w (fun _ => False)).alloc _).alloc _
  have hs1 : (w.alloc (.cells #[] 3)).heap.size = w.heap.size + 1 := by simp
  obtain ⟨w3, hst, hf3, k3⟩ := (h.free.keeps ka id).store (v := .pointer (some ⟨w.heap.size + 1, 0, none⟩)) (a := w.heap.size + 1) Try.underlying3 Try.underlying83 (by unfold maxLen; omega) hn (rdr_ptr _)
  have hA : HeapAt ((w.alloc (.cells #[] 3)).alloc (.cells #[.slice (some ⟨w.heap.size, 0, none⟩) 0 0] 110)) (w.heap.size + 1) (.slice (some ⟨w.heap.size, 0, none⟩) 0 0) [] := by
    refine ⟨?_, rfl, Or.inr ⟨w.heap.size, 0, #[], rfl, Nat.zero_le _, ?_, Nat.le_refl _, Nat.zero_le _, rfl, rfl⟩⟩
    · have := heap_alloc_new (w.alloc (.cells #[] 3)) (.cells #[.slice (some ⟨w.heap.size, 0, none⟩) 0 0] 110)
      rw [hs1] at this
      exact this
    · have := heap_alloc_new w (.cells #[] 3)
      rw [((Keeps.refl (w.alloc (.cells #[] 3)) (fun _ => False)).alloc (.cells #[.slice (some ⟨w.heap.size, 0, none⟩) 0 0] 110)).block w.heap.size (by rw [hs1]; omega) id]
      exact this
  have hbf := h.free.lt
  have hA3 := hA.keeps k3 (fun e => by omega) (fun k hk e => by simp [Value.ownBlock] at hk; omega)
  obtain ⟨h4, k4, f4⟩ := h.heap_new hx ((ka.mono (S1 := fun i => i = c.bf) (fun _ _ e => e.elim)).trans k3 (fun _ _ e => e)) hf3 hA3 (by omega) (fun k hk => by simp [Value.ownBlock] at hk; omega)
  have c5' : w3.cell? ⟨p, 5, none⟩ = some (.map (some c.bf)) := h4.cell5
  have hlk' := look_ptr (w := w3) Try.underlying3 Try.underlying83 (Try.zeroP w3) hf3 hn
  have hb4 : upd c.hb n (some (w.heap.size + 1)) n = some (w.heap.size + 1) := upd_same _ _ _
  rw [hb4] at hlk'
  simp only [Option.map_some] at hlk'
  have hP : Calls Try.prog 61 #[.iface 109 (.pointer (some ⟨w.heap.size + 1, 0, none⟩)), .iface 3 (.int .i64 off)] w3 fun e w' => LeavePost w p c d off n e w' := by
    refine (push_at h4 hb4 (upd_same _ _ _) off (by simp)).mono ?_
    rintro e w' ⟨rfl, c', h5, k5, f5⟩
    refine ⟨rfl, c', fun ys hp => ?_, ?_, ?_⟩
    · have e0 : (d.freed n []).fm n = some [] := upd_same _ _ _
      rw [hx] at hp
      rw [e0] at h5
      have e1 : (d.freed n []).freed n ys = d.freed n ys := by
        unfold AD.freed
        congr 1
        funext y
        by_cases e : y = n <;> simp [upd, e]
      rw [← e1]
      exact h5 ys hp
    · exact k4.trans k5 (fun i hi e => by
        rcases f4 i e with e | e
        · exact e
        · omega)
    · intro k hk
      rcases f5 k hk with e | e
      · exact f4 k e
      · have := k4.size
        exact Or.inr (by omega)
  clear h h4 k4 f4 hA hA3 hf3 k3 ka hs1 hbf hnf hb4 hb hx
  go_enter Try.func38, Try.ntmps38
  go_wp2_with fail
  refine hP.mono ?_
  intro e w1 hp
  have he := hp.1
  subst he
  have HP := hide hp
  clear hP hp
  go_wp2_with fail
  go_end0
  exact HP.out
end Go.Proofs.Ytgmcpjklgacdpaa
/-
  slices.Values, AppendSeq, Collect at lists of ints.
-/
namespace Go.Proofs.Ytgmcpjklgacdpaa
open Go.RowKit Go.Shelf

attribute [local go_sem] Oper.semAt_some

def upto (zs : List Int) (k : Nat) : List Int := (List.range k).map (fun j => zs[j]?.getD 0)
theorem upto_succ (zs : List Int) (k : Nat) : upto zs (k + 1) = upto zs k ++ [zs[k]?.getD 0] := by simp [upto, List.range_succ]
theorem upto_length (zs : List Int) (k : Nat) : (upto zs k).length = k := by simp [upto]
theorem upto_all (zs : List Int) : upto zs zs.length = zs := by
  apply List.ext_getElem
  · simp [upto]
  · intro i h1 h2
    simp [upto, h2]

set_option maxRecDepth 100000 in
set_option maxHeartbeats 2000000 in
theorem vals_some (F : Fence) (n : Nat) (h7 : F.fn 60) (hro : F.round = none) (hn : 1 ≤ n) (l Bs n₀ b off len cap : Nat) (zs : List Int) (hreach : len * 8 ≤ 140737488351232) (hb : b < n₀) (J Jx : List Int → World → Prop)
    (hY : ∀ pre x W, J pre W → pre.length < len → YieldAt F (n - 1) Try.prog l #[.int .i64 x] W fun e W' =>
      (e = .returned (.bool true) ∧ J (pre ++ [x]) W' ∧ Below n₀ W W') ∨ (e = .returned (.bool false) ∧ Jx (pre ++ [x]) W'))
    (W : World) (hBs : W.cell? ⟨Bs, 0, none⟩ = some (.slice (some ⟨b, off, none⟩) len cap)) (hc : ∀ j, j < len → W.cell? ⟨b, off + j, none⟩ = some (.int .i64 (zs[j]?.getD 0))) (h0 : J [] W) :
    CallsIn F n Try.prog 60 #[.func (.yield l) #[] #[], .pointer (some ⟨Bs, 0, none⟩)] W fun e W' => (∃ v, e = .returned v) ∧
      ((∃ ys, ys = upto zs len ∧ J ys W') ∨ (∃ pre, (∃ k, k ≤ len ∧ pre = upto zs k) ∧ Jx pre W')) := by
  refine callsIn_of_wp Try.func60 rfl h7 ?_ hro
  simp only [Try.ntmps60, List.size_toArray, List.length_cons, List.length_nil, Nat.reduceAdd, Nat.reduceSub, Array.replicate_succ, Array.replicate_zero, List.push_toArray, List.append_toArray, List.nil_append, List.cons_append]
  gi_wp2
  gi_loopw [7] (fun i wr => ∃ k : Nat, k ≤ len ∧ i = .int .i64 k ∧ J (upto zs k) wr ∧ Below n₀ W wr)
    (fun i _ => len - (intOf i).toNat)
  case atStart => exact ⟨0, Nat.zero_le _, rfl, h0, Below.refl _ _⟩
  case round =>
    obtain ⟨k, hk, rfl, hJs, hnx⟩ := hrel
    have hcx : k < len → wr.cell? ⟨b, off + k, none⟩ = some (.int .i64 (zs[k]?.getD 0)) := fun h => (hnx.cell (p := ⟨b, off + k, none⟩) hb).trans (hc k h)
    by_cases hlt : k < len
    · obtain ⟨fn, tmps, assign, body, hy, hR⟩ := hY _ (zs[k]?.getD 0) wr hJs (by rw [upto_length]; exact hlt)
      have hcx' := hcx hlt
      gi_wp2
      refine hR.mono ?_
      rintro e W3 (⟨rfl, hJ3, hk3⟩ | ⟨rfl, hJx3⟩)
      · gi_wp2
        go_roundw
        case rel => exact ⟨k + 1, by omega, by simp, by rw [upto_succ]; exact hJ3, hnx.trans hk3⟩
        case measure => simp [intOf]; omega
      · gi_wp2
        refine bodyPost_ret (results_none rfl _ _ _) rfl ?_
        exact ⟨⟨_, rfl⟩, .inr ⟨_, ⟨k + 1, by omega, (upto_succ _ _).symm⟩, hJx3⟩⟩
    · obtain rfl : k = len := by omega
      gi_wp2
      go_end0
      exact ⟨⟨_, rfl⟩, .inl ⟨_, rfl, hJs⟩⟩

set_option maxHeartbeats 1000000 in
theorem values_in (F : Fence) (n : Nat) (h5 : F.fn 37) (hro : F.round = none) (a : Option Addr) (len cap : Nat) (w : World) :
    CallsIn F n Try.prog 37 #[.slice a len cap] w fun e w' => e = .returned (.func (.func 60) #[] #[.pointer (some ⟨w.heap.size, 0, none⟩)]) ∧ w' = w.alloc (.cells #[.slice a len cap] 33) := by
  refine callsIn_of_wp Try.func37 rfl h5 ?_ hro
  simp only [Try.ntmps37, List.size_toArray, List.length_cons, List.length_nil, Nat.reduceAdd, Nat.reduceSub, Array.replicate_succ, Array.replicate_zero, List.push_toArray, List.append_toArray, List.nil_append, List.cons_append]
  gi_wp2
  go_ret
  exact ⟨rfl, rfl⟩
end Go.Proofs.Ytgmcpjklgacdpaa
