import Derived.Test.YtflihieaajbihaaOW2
namespace Go.Proofs.Ytflihieaajbihaa
open Go.RowKit
namespace oracleDraws
set_option linter.unusedVariables false

def Post (w : World) (e : Ending) (w' : World) : Prop := e = .returned (.bool true) ∧ Below w.heap.size w w'
theorem plain_of_cell {w : World} {a : Addr} {v : Value} (h : w.cell? (a.add 0) = some v) : ∃ bb oo, a = ⟨bb, oo, none⟩ ∧ bb < w.heap.size := by
  obtain ⟨bb, oo, sp⟩ := a
  have h' : w.cell? ⟨bb, oo, sp⟩ = some v := h
  have hlt : bb < w.heap.size := by
    rcases Nat.lt_or_ge bb w.heap.size with h1 | h1
    · exact h1
    · simp [World.cell?, Array.getElem?_eq_none h1] at h'
  cases sp with
  | none => exact ⟨bb, oo, rfl, hlt⟩
  | some s =>
    exfalso
    unfold World.cell? at h'
    split at h' <;> simp at h'

def RowI (w : World) (v : Value) (zs : List Int) : Prop :=
  (v = .slice none 0 0 ∧ zs = []) ∨ ∃ (a : Addr) (cap : Nat), v = .slice (some a) zs.length cap ∧ zs.length ≤ cap ∧ cap ≤ maxLen ∧ ∀ j (hj : j < zs.length), w.cell? (a.add j) = some (.int .i64 zs[j])
theorem RowU.some {w : World} {a : Option Addr} {n cap : Nat} {xs : List Nat} (h : RowU w (.slice a n cap) xs) (hx : 0 < xs.length) : ∃ b o, a = some ⟨b, o, none⟩ ∧ ∀ j (hj : j < xs.length), w.cell? ⟨b, o + j, none⟩ = some (.int .u64 (xs[j] : Nat)) := by
  rcases h with ⟨_, rfl⟩ | ⟨a', c, e, _, _, h3⟩
  · simp at hx
  · cases e
    obtain ⟨b, o, rfl, _⟩ := plain_of_cell (h3 0 hx)
    exact ⟨b, o, rfl, fun j hj => by rw [← add_lit]; exact h3 j hj⟩
theorem RowI.max {w : World} {a : Option Addr} {n cap : Nat} {xs : List Int} (h : RowI w (.slice a n cap) xs) : (xs.length : Int) ≤ 9223372036854775807 := by
  rcases h with ⟨_, rfl⟩ | ⟨a', c, e, q1, q2, h3⟩
  · simp
  · unfold maxLen at q2
    omega
theorem RowI.some {w : World} {a : Option Addr} {n cap : Nat} {xs : List Int} (h : RowI w (.slice a n cap) xs) (hx : 0 < xs.length) : ∃ b o, a = some ⟨b, o, none⟩ ∧ ∀ j (hj : j < xs.length), w.cell? ⟨b, o + j, none⟩ = some (.int .i64 xs[j]) := by
  rcases h with ⟨_, rfl⟩ | ⟨a', c, e, _, _, h3⟩
  · simp at hx
  · cases e
    obtain ⟨b, o, rfl, _⟩ := plain_of_cell (h3 0 hx)
    exact ⟨b, o, rfl, fun j hj => by rw [← add_lit]; exact h3 j hj⟩

def Rel (w : World) (A B pd gd pf gf : Nat) (xs ys : List Nat) (i j : Nat) (D F : List Nat) (wr : World) : Prop :=
  Suf wr A xs i ∧ Suf wr B ys j ∧ DrawAt wr pd gd D ∧ DrawAt wr pf gf F ∧ Kp w wr
structure Apart (w : World) (A B pd gd pf gf : Nat) : Prop where
  wA : w.heap.size ≤ A
  AB : A < B
  Bp : B < pd
  Bg : B < gd
  pp : pd < pf
  pg : pd < gf
  gp : gd < pf
  gg : gd < gf
theorem Kp.set {w w1 : World} (h : Kp w w1) {q : Nat} (hq : w.heap.size ≤ q) (i : Nat) (v : Value) : Kp w (w1.setCell ⟨q, i, none⟩ v) := Below.setCell h hq _
theorem Rel.setA {w wr : World} {A B pd gd pf gf i j : Nat} {xs ys D F : List Nat} (h : Rel w A B pd gd pf gf xs ys i j D F wr) (a : Apart w A B pd gd pf gf) (hi : i < xs.length) (v : Value) : Rel w A B pd gd pf gf xs ys (i + 1) j D F (wr.setCell ⟨A, i, none⟩ v) := by
  obtain ⟨h1, h2, h3, h4, h5⟩ := h
  have := a.wA; have := a.AB; have := a.Bp; have := a.Bg; have := a.pp; have := a.pg; have := a.gp; have := a.gg
  have hb : ∀ k, k ≠ A → (wr.setCell ⟨A, i, none⟩ v).heap[k]? = wr.heap[k]? := fun k hk => Below.heap_setCell _ ⟨A, i, none⟩ _ k hk
  exact ⟨h1.set hi v, h2.same (hb B (by omega)), h3.same (hb pd (by omega)) (hb gd (by omega)), h4.same (hb pf (by omega)) (hb gf (by omega)), Kp.set h5 (by omega) _ _⟩
theorem Rel.setB {w wr : World} {A B pd gd pf gf i j : Nat} {xs ys D F : List Nat} (h : Rel w A B pd gd pf gf xs ys i j D F wr) (a : Apart w A B pd gd pf gf) (hj : j < ys.length) (v : Value) : Rel w A B pd gd pf gf xs ys i (j + 1) D F (wr.setCell ⟨B, j, none⟩ v) := by
  obtain ⟨h1, h2, h3, h4, h5⟩ := h
  have := a.wA; have := a.AB; have := a.Bp; have := a.Bg; have := a.pp; have := a.pg; have := a.gp; have := a.gg
  have hb : ∀ k, k ≠ B → (wr.setCell ⟨B, j, none⟩ v).heap[k]? = wr.heap[k]? := fun k hk => Below.heap_setCell _ ⟨B, j, none⟩ _ k hk
  exact ⟨h1.same (hb A (by omega)), h2.set hj v, h3.same (hb pd (by omega)) (hb gd (by omega)), h4.same (hb pf (by omega)) (hb gf (by omega)), Kp.set h5 (by omega) _ _⟩
theorem Rel.takeD {w wr w' : World} {A B pd gd pf gf i j : Nat} {xs ys D F : List Nat} {e : Ending} (h : Rel w A B pd gd pf gf xs ys i j D F wr) (a : Apart w A B pd gd pf gf) (t : TakePost wr pd gd D e w') : Rel w A B pd gd pf gf xs ys i j D.tail F w' := by
  obtain ⟨h1, h2, h3, h4, h5⟩ := h
  obtain ⟨-, t2, hb, t4, t5, t6, t7⟩ := t
  have := a.wA; have := a.AB; have := a.Bp; have := a.Bg; have := a.pp; have := a.pg; have := a.gp; have := a.gg
  exact ⟨h1.same (hb A (by omega)), h2.same (hb B (by omega)), t2, h4.same (hb pf (by omega)) (hb gf (by omega)), ⟨t5.trans h5.os, t6.trans h5.tape, t7.trans h5.output, by rw [t4]; exact h5.size, fun k hk => (hb k (by omega)).trans (h5.block k hk)⟩⟩
theorem Rel.takeF {w wr w' : World} {A B pd gd pf gf i j : Nat} {xs ys D F : List Nat} {e : Ending} (h : Rel w A B pd gd pf gf xs ys i j D F wr) (a : Apart w A B pd gd pf gf) (t : TakePost wr pf gf F e w') : Rel w A B pd gd pf gf xs ys i j D F.tail w' := by
  obtain ⟨h1, h2, h3, h4, h5⟩ := h
  obtain ⟨-, t2, hb, t4, t5, t6, t7⟩ := t
  have := a.wA; have := a.AB; have := a.Bp; have := a.Bg; have := a.pp; have := a.pg; have := a.gp; have := a.gg
  exact ⟨h1.same (hb A (by omega)), h2.same (hb B (by omega)), h3.same (hb pd (by omega)) (hb gd (by omega)), t2, ⟨t5.trans h5.os, t6.trans h5.tape, t7.trans h5.output, by rw [t4]; exact h5.size, fun k hk => (hb k (by omega)).trans (h5.block k hk)⟩⟩
theorem drop_ne {xs : List Nat} {p g : Nat} (h : xs = [] ∨ p ≠ g) (i : Nat) : xs.drop i = [] ∨ p ≠ g := by
  rcases h with rfl | h
  · exact Or.inl (by simp)
  · exact Or.inr h
theorem head_drop {xs : List Nat} {i : Nat} (hi : i < xs.length) : (xs.drop i).headD 0 = xs[i] := by
  rw [List.drop_eq_getElem_cons hi]
  rfl
theorem head_end {xs : List Nat} {i : Nat} (hi : ¬ i < xs.length) : (xs.drop i).headD 0 = 0 := by
  rw [List.drop_of_length_le (by omega)]
  rfl
theorem Rel.drewN {w wr : World} {A B pd gd pf gf i j : Nat} {xs ys D F : List Nat} (h : Rel w A B pd gd pf gf xs ys i j D F wr) (n : Nat) : Rel w A B pd gd pf gf xs ys i j D F (wr.drewN n) :=
  ⟨h.1, h.2.1, h.2.2.1, h.2.2.2.1, ⟨h.2.2.2.2.os, h.2.2.2.2.tape, h.2.2.2.2.output, h.2.2.2.2.size, h.2.2.2.2.block⟩⟩

set_option maxRecDepth 100000 in
set_option maxHeartbeats 4000000 in
theorem core (a1 a2 a3 : Option Addr) (p1 p2 p3 : Nat) (xs ys : List Nat) (zs : List Int) (w : World) (h1 : RowU w (.slice a1 xs.length p1) xs) (h2 : RowU w (.slice a2 ys.length p2) ys) (h3 : RowI w (.slice a3 zs.length p3) zs) (n1 : xs.length * 8 + 8 ≤ 140737488355328) (n2 : ys.length * 8 ≤ 140737488355328) :
    Calls Try.prog 3 #[.slice a1 xs.length p1, .slice a2 ys.length p2, .slice a3 zs.length p3] w (Post w) := by
  obtain ⟨va, wa, r1, hva, own1, ka⟩ := append_row w h1 (by omega)
  obtain ⟨A, cap, wb, r2, c1, c2, sA, hm, hA, kb⟩ := append_mark w wa xs n1 va hva own1 ka
  obtain ⟨vc, wc, r3, hvc, own3, kc⟩ := append_row wb (h2.kp kb) n2
  obtain ⟨B, capB, rfl, hB, d1, d2, sB⟩ := Suf.of hvc own3
  have hcap : (xs.length : Int) ≤ cap := by omega
  have hcap2 : (cap : Int) ≤ 9223372036854775807 := by unfold maxLen at c2; omega
  have hcap3 : ¬ cap = 0 := by omega
  have hxl : (xs.length : Int) ≤ (xs.length : Int) + 1 := by omega
  have hx9 : (xs.length : Int) ≤ 17592186044416 := by omega
  have hy9 : (ys.length : Int) ≤ 17592186044416 := by omega
  have hz9 : (zs.length : Int) ≤ 9223372036854775807 := RowI.max h3
  clear own1 own3
  go_enter Try.func3, Try.ntmps3
  go_wp2_with (first | (at_builtin; have _t := r1; refine append_run1 _ rfl (.tmp 22) (.tmp 23) 22 rfl rfl rfl r1 ?_; clear r1) | (at_builtin; have _t := r2; refine append_run1 _ rfl (.tmp 25) (.tmp 26) 22 rfl rfl rfl r2 ?_; clear r2) | (at_builtin; have _t := r3; refine append_run1 _ rfl (.tmp 32) (.tmp 33) 22 rfl rfl rfl r3 ?_; clear r3))
  have hlA : A < wb.heap.size := sA.lt
  have hlB : B < wc.heap.size := sB.lt
  have sz1 : wb.heap.size ≤ wc.heap.size := kc.size
  have sz0 : w.heap.size ≤ wb.heap.size := kb.size
  have sA1 : Suf wc A xs 0 := sA.same (kc.block A hlA)
  refine (new_any wc (sA1.row (by omega) c2) (by omega)).mono ?_
  rintro e wd ⟨pd, gd, rfl, hD, e1, e2, e3, e4, e5, kd⟩
  have sB1 : Suf wd B ys 0 := sB.same (kd.block B hlB)
  have sz2 : wc.heap.size ≤ wd.heap.size := kd.size
  go_wp2_with fail
  refine (new_any wd (sB1.row d1 d2) n2).mono ?_
  rintro e wf ⟨pf, gf, rfl, hF, f1, f2, f3, f4, f5, kf⟩
  have sz3 : wd.heap.size ≤ wf.heap.size := kf.size
  have sA2 : Suf wf A xs 0 := sA1.same ((kf.block A (by omega)).trans (kd.block A (by omega)))
  have sB2 : Suf wf B ys 0 := sB1.same (kf.block B (by omega))
  have hD2 : DrawAt wf pd gd xs := hD.same (kf.block pd e4) (kf.block gd e5)
  have hm2 : wf.cell? ⟨A, xs.length, none⟩ = some (.int .u64 77) := (kd.trans kf).cell (kc.cell hm)
  have kw : Kp w wf := ((kb.trans kc).trans kd).trans kf
  clear sA sA1 sB sB1 hD hm ka kb kc kd kf hva hvc
  have ap : Apart w A B pd gd pf gf := ⟨hA, by omega, by omega, by omega, by omega, by omega, by omega, by omega⟩
  have hR : Rel w A B pd gd pf gf xs ys 0 0 xs ys wf := ⟨sA2, sB2, hD2, hF, kw⟩
  clear sA2 sB2 hD2 hF kw
  go_wp2_with fail
  clear hm2
  have AP := hide ap
  clear ap
  go_loopw [55] (fun vi wr => ∃ i : Nat, vi = .int .i64 (i : Int) ∧ i ≤ xs.length ∧ Rel w A B pd gd pf gf xs ys i 0 xs ys wr) (fun vi _ => xs.length - (intOf vi).toNat)
  case atStart => exact ⟨0, rfl, Nat.zero_le _, hR⟩
  case round =>
    clear hR
    obtain ⟨i, rfl, hi, hR⟩ := hrel
    by_cases hlt : i < xs.length
    · have hlt' : (i : Int) < (xs.length : Int) := by omega
      obtain ⟨b, o, rfl, hc⟩ := RowU.some h1 (by omega)
      have q1 := hR.1.cell hlt
      have q2 := hR.1.frozen i
      have q3 := hR.2.2.2.2.cell (hc i hlt)
      have HR := hide hR
      clear hR hc h1 h2 h3
      go_wp2_with fail
      go_quiet (fail)
      go_wp2_with fail
      exact ⟨⟨i + 1, by simp, by omega, (HR.out.drewN _).setA AP.out hlt _⟩, by simp [intOf]; omega⟩
    · have hlt' : ¬ (i : Int) < (xs.length : Int) := by omega
      obtain rfl : i = xs.length := by omega
      have HR := hide hR
      clear hR
      go_wp2_with fail
      go_loopw [78] (fun vi wr => ∃ i : Nat, vi = .int .i64 (i : Int) ∧ i ≤ ys.length ∧ Rel w A B pd gd pf gf xs ys xs.length i xs ys wr) (fun vi _ => ys.length - (intOf vi).toNat)
      case atStart => exact ⟨0, rfl, Nat.zero_le _, HR.out⟩
      case round =>
        clear HR
        obtain ⟨i, rfl, hi, hR⟩ := hrel
        by_cases hlt : i < ys.length
        · have hlt' : (i : Int) < (ys.length : Int) := by omega
          obtain ⟨b, o, rfl, hc⟩ := RowU.some h2 (by omega)
          have q1 := hR.2.1.cell hlt
          have q2 := hR.2.1.frozen i
          have q3 := hR.2.2.2.2.cell (hc i hlt)
          have HR := hide hR
          clear hR hc h1 h2 h3
          go_wp2_with fail
          go_quiet (fail)
          go_wp2_with fail
          exact ⟨⟨i + 1, by simp, by omega, (HR.out.drewN _).setB AP.out hlt _⟩, by simp [intOf]; omega⟩
        · have hlt' : ¬ (i : Int) < (ys.length : Int) := by omega
          obtain rfl : i = ys.length := by omega
          have HR := hide hR
          clear hR
          go_wp2_with fail
          go_loopw [14, 15, 101] (fun vi vj vt wr => ∃ i j t : Nat, vi = .int .i64 (i : Int) ∧ vj = .int .i64 (j : Int) ∧ vt = .int .i64 (t : Int) ∧ t ≤ zs.length ∧ i ≤ xs.length ∧ j ≤ ys.length ∧ Rel w A B pd gd pf gf xs ys xs.length ys.length (xs.drop i) (ys.drop j) wr) (fun _ _ vt _ => zs.length - (intOf vt).toNat)
          case atStart => exact ⟨0, 0, 0, rfl, rfl, rfl, Nat.zero_le _, Nat.zero_le _, Nat.zero_le _, HR.out⟩
          case round =>
            clear HR
            obtain ⟨i, j, t, rfl, rfl, rfl, ht, hi, hj, hR⟩ := hrel
            have li : (xs.length : Int) - (i : Int) = ((xs.drop i).length : Int) := by rw [List.length_drop]; omega
            have lj : (ys.length : Int) - (j : Int) = ((ys.drop j).length : Int) := by rw [List.length_drop]; omega
            by_cases hlt : t < zs.length
            · have hlt' : (t : Int) < (zs.length : Int) := by omega
              obtain ⟨b3, o3, rfl, hc3⟩ := RowI.some h3 (by omega)
              have q0 := hR.2.2.2.2.cell (hc3 t hlt)
              have LI := hide li
              have LJ := hide lj
              clear hc3 h3 li lj
              generalize zs[t] = k at *
              by_cases k0 : k = 0
              · subst k0
                have hT := take_any wr hR.2.2.1 (drop_ne e3 i)
                by_cases hin : i < xs.length
                · have hin' : (i : Int) < (xs.length : Int) := by omega
                  obtain ⟨b, o, rfl, hc⟩ := RowU.some h1 (by omega)
                  have q1 := hR.2.2.2.2.cell (hc i hin)
                  have HH := hide (head_drop hin)
                  have HR := hide hR
                  clear hR hc h1 h2
                  go_wp2_with fail
                  refine hT.mono ?_
                  intro e w' tp
                  have HR2 := hide (HR.out.takeD AP.out tp)
                  obtain ⟨rfl, -⟩ := tp
                  rw [HH.out]
                  go_wp2_with fail
                  refine ⟨⟨i + 1, j, t + 1, by simp, rfl, by simp, by omega, by omega, hj, ?_⟩, by simp [intOf]; omega⟩
                  have := HR2.out
                  rw [List.tail_drop] at this
                  exact this
                · have hin' : ¬ (i : Int) < (xs.length : Int) := by omega
                  have HH := hide (head_end hin)
                  have HR := hide hR
                  clear hR h1 h2
                  go_wp2_with fail
                  refine hT.mono ?_
                  intro e w' tp
                  have HR2 := hide (HR.out.takeD AP.out tp)
                  obtain ⟨rfl, -⟩ := tp
                  rw [HH.out]
                  go_wp2_with fail
                  refine ⟨⟨i, j, t + 1, rfl, rfl, by simp, by omega, hi, hj, ?_⟩, by simp [intOf]; omega⟩
                  have := HR2.out
                  rw [List.tail_drop, List.drop_of_length_le (show xs.length ≤ i + 1 by omega), ← List.drop_of_length_le (show xs.length ≤ i by omega)] at this
                  exact this
              · by_cases k1 : k = 1
                · subst k1
                  have hT := take_any wr hR.2.2.2.1 (drop_ne f3 j)
                  by_cases hin : j < ys.length
                  · have hin' : (j : Int) < (ys.length : Int) := by omega
                    obtain ⟨b, o, rfl, hc⟩ := RowU.some h2 (by omega)
                    have q1 := hR.2.2.2.2.cell (hc j hin)
                    have HH := hide (head_drop hin)
                    have HR := hide hR
                    clear hR hc h1 h2
                    go_wp2_with fail
                    refine hT.mono ?_
                    intro e w' tp
                    have HR2 := hide (HR.out.takeF AP.out tp)
                    obtain ⟨rfl, -⟩ := tp
                    rw [HH.out]
                    go_wp2_with fail
                    refine ⟨⟨i, j + 1, t + 1, rfl, by simp, by simp, by omega, hi, by omega, ?_⟩, by simp [intOf]; omega⟩
                    have := HR2.out
                    rw [List.tail_drop] at this
                    exact this
                  · have hin' : ¬ (j : Int) < (ys.length : Int) := by omega
                    have HH := hide (head_end hin)
                    have HR := hide hR
                    clear hR h1 h2
                    go_wp2_with fail
                    refine hT.mono ?_
                    intro e w' tp
                    have HR2 := hide (HR.out.takeF AP.out tp)
                    obtain ⟨rfl, -⟩ := tp
                    rw [HH.out]
                    go_wp2_with fail
                    refine ⟨⟨i, j, t + 1, rfl, rfl, by simp, by omega, hi, hj, ?_⟩, by simp [intOf]; omega⟩
                    have := HR2.out
                    rw [List.tail_drop, List.drop_of_length_le (show ys.length ≤ j + 1 by omega), ← List.drop_of_length_le (show ys.length ≤ j by omega)] at this
                    exact this
                · have z0 : (k == 0) = false := beq_eq_false_iff_ne.2 k0
                  have z1 : (k == 1) = false := beq_eq_false_iff_ne.2 k1
                  by_cases k2 : k = 2
                  · subst k2
                    have hT := left_any wr hR.2.2.1
                    rw [← LI.out] at hT
                    have HR := hide hR
                    clear hR h1 h2 k0 k1
                    go_wp2_with fail
                    refine hT.mono ?_
                    rintro e w' ⟨rfl, rfl⟩
                    go_wp2_with fail
                    exact ⟨⟨i, j, t + 1, rfl, rfl, by simp, by omega, hi, hj, HR.out⟩, by simp [intOf]; omega⟩
                  · have z2 : (k == 2) = false := beq_eq_false_iff_ne.2 k2
                    by_cases k3 : k = 3
                    · subst k3
                      have hT := left_any wr hR.2.2.2.1
                      rw [← LJ.out] at hT
                      have HR := hide hR
                      clear hR h1 h2 k0 k1 k2
                      go_wp2_with fail
                      refine hT.mono ?_
                      rintro e w' ⟨rfl, rfl⟩
                      go_wp2_with fail
                      exact ⟨⟨i, j, t + 1, rfl, rfl, by simp, by omega, hi, hj, HR.out⟩, by simp [intOf]; omega⟩
                    · have z3 : (k == 3) = false := beq_eq_false_iff_ne.2 k3
                      have HR := hide hR
                      clear hR h1 h2 k0 k1 k2 k3
                      go_wp2_with fail
                      exact ⟨⟨i, j, t + 1, rfl, rfl, by simp, by omega, hi, hj, HR.out⟩, by simp [intOf]; omega⟩
            · have hlt' : ¬ (t : Int) < (zs.length : Int) := by omega
              have hT1 := left_any wr hR.2.2.1
              have hT2 := left_any wr hR.2.2.2.1
              rw [← li] at hT1
              rw [← lj] at hT2
              have HK := hide hR.2.2.2.2
              clear hR h1 h2 h3 li lj
              go_wp2_with fail
              refine hT1.mono ?_
              rintro e w' ⟨rfl, rfl⟩
              go_wp2_with fail
              refine hT2.mono ?_
              rintro e w' ⟨rfl, rfl⟩
              go_wp2_with fail
              go_ret
              exact ⟨rfl, HK.out⟩
end oracleDraws
end Go.Proofs.Ytflihieaajbihaa
