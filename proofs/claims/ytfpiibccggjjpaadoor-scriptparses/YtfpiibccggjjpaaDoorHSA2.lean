/-
  script: what a script that was read costs (as data); its rows.
-/
import Derived.Test.YtfpiibccggjjpaaDoorHSA1
import Derived.Test.YtfpiibccggjjpaaDoorUn13
namespace Go.Proofs.YtfpiibccggjjpaaDoor
open Go.RowKit
set_option linter.unusedVariables false

theorem wsum_append (a b : List (List UInt8)) : wsum (a ++ b) = wsum a + wsum b := by simp [wsum]
theorem wdF_sum (l : List UInt8) : ∀ i, i ≤ l.length → wsum (wdF (l.take i)).ws + (wdF (l.take i)).cur.length ≤ i
  | 0, _ => Nat.le_refl _
  | i + 1, h => by
    have hlt : i < l.length := by omega
    have ih := wdF_sum l i (by omega)
    rw [wdF_take hlt]
    generalize wdF (l.take i) = st at *
    unfold wdS
    split
    · omega
    · split
      · rename_i hc
        split
        · omega
        · split
          · show wsum st.ws + 0 ≤ _; omega
          · show wsum st.ws + 1 ≤ _; omega
      · split
        · show wsum (st.ws ++ [st.cur]) + 0 ≤ _
          rw [wsum_append]
          show wsum st.ws + (st.cur.length + 1 + 0) + 0 ≤ _
          omega
        · show wsum st.ws + (st.cur ++ [_]).length ≤ _
          rw [List.length_append]
          show _ + (_ + 1) ≤ _
          omega
theorem words_sum (l : List UInt8) : wsum (wdsD l) ≤ l.length + 1 := by
  have h := wdF_sum l l.length (Nat.le_refl _)
  rw [List.take_length] at h
  unfold wdsD
  split
  · omega
  · rw [wsum_append]
    show _ + ((wdF l).cur.length + 1 + 0) ≤ _
    omega
theorem lnF_sum (l : List UInt8) : ∀ i, i ≤ l.length → wsum (lnF (l.take i)).1 + (lnF (l.take i)).2.length ≤ i
  | 0, _ => Nat.le_refl _
  | i + 1, h => by
    have hlt : i < l.length := by omega
    have ih := lnF_sum l i (by omega)
    by_cases hx : l[i] = 10
    · rw [lnF_end hlt hx]
      show wsum ((lnF (l.take i)).1 ++ [(lnF (l.take i)).2]) + 0 ≤ _
      rw [wsum_append]
      show _ + ((lnF (l.take i)).2.length + 1 + 0) + 0 ≤ _
      omega
    · rw [lnF_in hlt hx]
      show wsum (lnF (l.take i)).1 + ((lnF (l.take i)).2 ++ [l[i]]).length ≤ _
      rw [List.length_append]
      show _ + (_ + 1) ≤ _
      omega
theorem lines_sum (l : List UInt8) : wsum (linesD l) ≤ l.length + 1 := by
  have h := lnF_sum l l.length (Nat.le_refl _)
  rw [List.take_length] at h
  unfold linesD
  split
  · omega
  · rw [wsum_append]
    show _ + ((lnF l).2.length + 1 + 0) ≤ _
    omega
/-- A script that was read. -/
structure Fine (st : PSt) (B : Nat) : Prop where
  lim : Fit st.lim
  cs : ∀ c, c ∈ st.cs → tellC c = some c ∧ CmdOk c
  os : ∀ o, o ∈ st.os → o.2 < 18446744073709551616
  cost : costO st.os + costs st.cs ≤ B
theorem costO_more (os : List Ovr) (o : Ovr) : costO (os ++ [o]) = costO os + (o.1.size + 1) := by simp [costO]
theorem costs_more (cs : List CmdD) (c : CmdD) : costs (cs ++ [c]) = costs cs + costC c := by simp [costs]
theorem Fine.lay {st : PSt} {B : Nat} (h : Fine st B) {nm : List UInt8} {fs : List (List UInt8)} (h0 : (lnR st.last nm fs).2.2 = 0) : Fine (st.lay (lnR st.last nm fs).1 (lnR st.last nm fs).2.1) (B + wsum (nm :: fs)) := by
  have hw := wsum_cons nm fs
  unfold lnR at h0 ⊢
  cases hi : rowI nm with
  | none =>
    rw [hi] at h0
    cases h0
  | some i =>
    have hi16 : i < 16 := by
      unfold rowI at hi
      exact List.mem_range.1 (List.mem_of_find?_eq_some hi)
    rw [hi] at h0
    dsimp only at h0 ⊢
    by_cases q : (mayF st.last (kN i) && fitN i fs.length) = true
    · rw [if_pos q] at h0 ⊢
      by_cases q2 : (rowRd i fs).2 = 0
      · rw [if_pos q2] at h0 ⊢
        have hr := rd_case i hi16 fs q2
        dsimp only
        generalize (rowRd i fs).1 = c at *
        have hc := hr.cost
        unfold PSt.lay kN
        by_cases i0 : i = 0
        · rw [if_pos i0, if_pos rfl]
          exact ⟨hr.ok.n, h.cs, h.os, Nat.le_trans h.cost (by omega)⟩
        · rw [if_neg i0]
          by_cases i1 : i = 1
          · rw [if_pos i1, if_neg (by decide), if_pos rfl]
            refine ⟨h.lim, h.cs, fun o ho => ?_, ?_⟩
            · rcases List.mem_append.1 ho with z | z
              · exact h.os o z
              · obtain rfl : o = (c.key, c.u) := by simpa using z
                exact hr.ok.u
            · show costO (st.os ++ [(c.key, c.u)]) + costs st.cs ≤ _
              rw [costO_more]
              have := h.cost
              unfold costC at hc
              dsimp only
              omega
          · rw [if_neg i1, if_neg (by decide), if_neg (by decide), if_pos rfl]
            have hop : c.op = (i : Int) - 1 := by
              rw [hr.op]
              unfold oN
              rw [if_neg (by omega)]
            refine ⟨h.lim, fun x hx => ?_, h.os, ?_⟩
            · rcases List.mem_append.1 hx with z | z
              · exact h.cs x z
              · obtain rfl : x = c := by simpa using z
                refine ⟨?_, hr.ok⟩
                rw [tellC_yes (by omega)]
                have e : x.op.toNat + 1 = i := by omega
                rw [e, hr.tell]
            · show costO st.os + costs (st.cs ++ [c]) ≤ _
              rw [costs_more]
              have := h.cost
              omega
      · rw [if_neg q2] at h0
        exact absurd h0 q2
    · rw [if_neg q] at h0
      cases h0
theorem Fine.mono {st : PSt} {A B : Nat} (h : Fine st A) (hab : A ≤ B) : Fine st B := ⟨h.lim, h.cs, h.os, Nat.le_trans h.cost hab⟩
theorem psF_fine : ∀ (ls : List (List UInt8)) (s : PSt) (i B : Nat) (r : PSt), Fine s B → psF s i ls = .inl r → Fine r (B + wsum ls)
  | [], s, i, B, r, hs, h => by
    injection h with h
    subst h
    exact hs
  | l :: t, s, i, B, r, hs, h => by
    have hw := words_sum l
    rw [wsum_cons]
    cases hd : wdsD l with
    | nil =>
      rw [psF_skip hd] at h
      exact (psF_fine t s (i + 1) B r hs h).mono (by omega)
    | cons nm fs =>
      rw [hd] at hw
      by_cases h0 : (lnR s.last nm fs).2.2 = 0
      · rw [psF_read hd h0] at h
        exact (psF_fine t _ (i + 1) _ r (hs.lay h0) h).mono (by omega)
      · rw [psF_bad hd h0] at h
        cases h
theorem parse_fine {t : List UInt8} {st : PSt} (h : parseD t = .inl st) : Fine st 1048577 ∧ t.length ≤ 1048576 := by
  unfold parseD at h
  by_cases hz : 1048576 < t.length
  · rw [if_pos hz] at h
    cases h
  · rw [if_neg hz] at h
    cases hq : psF PSt.zero 0 (linesD t) with
    | inr y =>
      rw [hq] at h
      cases h
    | inl s =>
      rw [hq] at h
      dsimp only at h
      split at h
      · cases h
      · injection h with h
        subst h
        have f0 : Fine PSt.zero 0 := ⟨fit0, (fun c hc => by cases hc), (fun c hc => by cases hc), Nat.le_refl _⟩
        have := psF_fine _ _ _ _ _ f0 hq
        have h2 := lines_sum t
        exact ⟨this.mono (by omega), by omega⟩
theorem sum_mem {α : Type} (f : α → Nat) : ∀ (l : List α) (x : α), x ∈ l → f x ≤ (l.map f).sum
  | a :: t, x, h => by
    rw [List.map_cons, List.sum_cons]
    rcases List.mem_cons.1 h with rfl | h
    · omega
    · have := sum_mem f t x h
      omega
theorem ScR.fineO {lo : Nat} {st : PSt} {vo vc : Value} {L : List CmV} {W : World} (h : ScR lo st vo vc L W) (hf : Fine st 1048577) : OvIn W vo st.os := h.ovIn (fun x hx => by
  have := sum_mem (fun o : Ovr => o.1.size + 1) st.os x hx
  have h2 := hf.cost
  unfold costO at h2
  exact ⟨by omega, hf.os x hx⟩)
theorem ScR.fineC {lo : Nat} {st : PSt} {vo vc : Value} {L : List CmV} {W : World} (h : ScR lo st vo vc L W) (hf : Fine st 1048577) : CmIn W vc L := by
  refine ⟨own_rowIn h.cs, fun x hx => ?_⟩
  have hm : x.c ∈ st.cs := by
    rw [← h.eq]
    exact List.mem_map.2 ⟨x, hx, rfl⟩
  obtain ⟨e1, e2⟩ := h.each x hx
  have hk := (hf.cs _ hm).2
  have h3 := sum_mem costC st.cs x.c hm
  have h2 := hf.cost
  unfold costs at h2
  have h4 : x.c.fl.length + x.c.hl.length + x.c.key.size + x.c.elem.size + 1 ≤ (st.cs.map costC).sum := h3
  exact ⟨IntsO.intsIn e1 hk.f, IntsO.intsIn e2 hk.s, by omega, by omega, hk.h, hk.n, hk.u, hk.v, by omega, by omega⟩
theorem told_same : ∀ cs : List CmdD, (∀ c, c ∈ cs → tellC c = some c) → cs.filterMap tellC = cs
  | [], _ => rfl
  | c :: t, h => by
    rw [List.filterMap_cons, h c List.mem_cons_self]
    show c :: t.filterMap tellC = c :: t
    rw [told_same t (fun x hx => h x (List.mem_cons_of_mem _ hx))]
theorem ScR.keepsB {lo : Nat} {st : PSt} {vo vc : Value} {L : List CmV} {W W' : World} {B : Nat} {cs : Array Value} (h : ScR lo st vo vc L W) (hB : W.heap[B]? = some (.cells cs 25)) (k : Keeps W W' (fun x => x = B)) : ScR lo st vo vc L W' := by
  have hne : ∀ {e : TypeId} {size : Nat} {v : Value} {n : Nat} {xs : List Value}, W.ownsRow lo e size v n xs → 25 ≠ e → W'.ownsRow lo e size v n xs := fun {e size v n xs} q hq => ownsRow_keeps q k (own_ne2 q hB hq)
  exact ⟨hne h.os (by decide), hne h.cs (by decide), h.eq, fun x hx => ⟨hne (h.each x hx).1 (by decide), hne (h.each x hx).2 (by decide)⟩, h.ap⟩
/-- The two texts that are read ahead. -/
def ag1 : ByteArray := ⟨#[108, 105, 109, 105, 116, 32, 57, 10, 9, 104, 97, 115, 104, 32, 39, 98, 32, 48, 88, 70, 10, 108, 101, 110, 32, 51]⟩
def ag2 : ByteArray := ⟨#[32, 108, 105, 109, 105, 116, 32, 48, 48, 57, 32, 35, 32, 115, 111, 10, 9, 104, 97, 115, 104, 32, 39, 98, 32, 48, 120, 70, 10, 10, 108, 101, 110, 32, 45, 51]⟩
def ag3 : ByteArray := ⟨#[108, 105, 109, 105, 116, 32, 57, 10, 104, 97, 115, 104, 32, 54, 50, 32, 48, 120, 102, 10, 108, 101, 110, 32, 45, 51, 10]⟩
theorem ag1_read : parseD ag1.data.toList = .inr (2, 160) := by kernel_rfl
theorem ag2_read : parseD ag2.data.toList = .inl ⟨3, 9, [(⟨#[98]⟩, 15)], [⟨5, -3, 0, 0, 0, ⟨#[]⟩, ⟨#[]⟩, [], []⟩]⟩ := by kernel_rfl
theorem dec9 (u : Nat) (h : u < 10) : Lib.decDigits u = [UInt8.ofNat (48 + u)] := by rw [dec_unfold, if_pos h]
theorem ag3_text : strOf (textD 9 [(⟨#[98]⟩, 15)] [⟨5, -3, 0, 0, 0, ⟨#[]⟩, ⟨#[]⟩, [], []⟩]) = ag3 := by
  have n9 : numD 9 = ⟨#[57]⟩ := by
    unfold numD Lib.itoa
    rw [if_neg (by decide), dec9 _ (by decide)]
    rfl
  have n3 : numD (-3) = ⟨#[45, 51]⟩ := by
    unfold numD Lib.itoa
    rw [if_pos (by decide), dec9 _ (by decide)]
    rfl
  have w15 : wordD 15 = ⟨#[48, 120, 102]⟩ := by
    unfold wordD
    rw [hexW_small (by decide)]
    rfl
  have e1 : limT 9 = (nmN 0).data.toList ++ tailD [numD 9] ++ [10] := rfl
  have e2 : ovT (⟨#[98]⟩, 15) = (nmN 1).data.toList ++ tailD [bytesD ⟨#[98]⟩, wordD 15] ++ [10] := rfl
  have e3 : cmdT ⟨5, -3, 0, 0, 0, ⟨#[]⟩, ⟨#[]⟩, [], []⟩ = (nmN 6).data.toList ++ tailD [numD (-3)] ++ [10] := rfl
  unfold textD
  rw [List.flatMap_cons, List.flatMap_nil, List.flatMap_cons, List.flatMap_nil, e1, e2, e3, n9, n3, w15]
  rfl
end Go.Proofs.YtfpiibccggjjpaaDoor
