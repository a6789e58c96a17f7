/-
  script: ScriptLists' walk.
-/
import Derived.Test.YtfpiibccggjjpaaDoorHSL5
import Derived.Test.YtfpiibccggjjpaaDoorHSA2
import Derived.Test.YtfpiibccggjjpaaDoorHSR8
namespace Go.Proofs.YtfpiibccggjjpaaDoor
open Go.RowKit
set_option linter.unusedVariables false
theorem ScR.mkS {lo : Nat} {st : PSt} {vo vc : Value} {L : List CmV} {W : World} (h : ScR lo st vo vc L W) : MkS lo vc L W :=
  ⟨h.cs, fun i hi b => by
    cases b with
    | false => exact (h.each _ (List.getElem_mem hi)).1
    | true => exact (h.each _ (List.getElem_mem hi)).2, h.ap⟩
theorem ScR.ownS {lo : Nat} {st : PSt} {vo vc : Value} {L : List CmV} {W : World} (h : ScR lo st vo vc L W) {k : Nat} (hk : OwnS vo vc L k) : lo ≤ k ∧ k < W.heap.size := by
  rcases hk with e | e | ⟨j, hj, b, e⟩
  · obtain ⟨h1, cur, hc⟩ := ownsRow_block h.os e
    exact ⟨h1, heap_lt hc⟩
  · obtain ⟨h1, cur, hc⟩ := ownsRow_block h.cs e
    exact ⟨h1, heap_lt hc⟩
  · obtain ⟨h1, cur, hc⟩ := ownsRow_block (h.mkS.each j hj b) e
    exact ⟨h1, heap_lt hc⟩
theorem own_from {w w' : World} {base : Nat} {e : TypeId} {size : Nat} {v : Value} {n : Nat} {xs : List Value} {S : Nat → Prop} (h : w.ownsRow base e size v n xs) (k : Keeps w w' S) (hS : ∀ q, S q → q < base) : w'.ownsRow base e size v n xs := ownsRow_keeps h k (fun g hg e => by
  have h1 := (ownsRow_block h hg).1
  have h2 := hS g e
  omega)
theorem ScR.keepsS {lo : Nat} {st : PSt} {vo vc : Value} {L : List CmV} {W W' : World} {S : Nat → Prop} (h : ScR lo st vo vc L W) (k : Keeps W W' S) (hS : ∀ q, S q → q < lo) : ScR lo st vo vc L W' := ⟨own_from h.os k hS, own_from h.cs k hS, h.eq, fun x hx => ⟨own_from (h.each x hx).1 k hS, own_from (h.each x hx).2 k hS⟩, h.ap⟩
theorem Cpy.keepsS {lo : Nat} {os : List Ovr} {L : List CmV} {go co gc cc : Nat} {G C : Nat → Bool → Nat} {W W' : World} {S : Nat → Prop} (h : Cpy lo os L go co gc cc G C W) (k : Keeps W W' S) (hS : ∀ q, S q → q < lo) : Cpy lo os L go co gc cc G C W' := ⟨own_from h.ov k hS, own_from h.cm k hS, fun i hi b => own_from (h.row i hi b) k hS, h.apart⟩
theorem fine_few {st : PSt} (hf : Fine st 1048577) : st.os.length ≤ 4194304 ∧ st.cs.length ≤ 4194304 ∧ ∀ c ∈ st.cs, ∀ b, (lst b c).length ≤ 8388600 := by
  have h0 := hf.cost
  have h1 := ovs_few st.os
  have h2 := cms_few st.cs
  refine ⟨by omega, by omega, fun c hc b => ?_⟩
  have h3 := sum_mem costC st.cs c hc
  unfold costs at h0
  have h4 : c.fl.length + c.hl.length + c.key.size + c.elem.size + 1 ≤ (st.cs.map costC).sum := h3
  cases b with
  | false => show c.fl.length ≤ _; omega
  | true => show c.hl.length ≤ _; omega
theorem ScR.few {lo : Nat} {st : PSt} {vo vc : Value} {L : List CmV} {W : World} (h : ScR lo st vo vc L W) (hf : Fine st 1048577) : L.length ≤ 4194304 ∧ ∀ j (hj : j < L.length) b, (lst b L[j].c).length ≤ 8388600 := by
  have hl : L.length = st.cs.length := by
    have := congrArg List.length h.eq
    rwa [List.length_map] at this
  refine ⟨by rw [hl]; exact (fine_few hf).2.1, fun j hj b => (fine_few hf).2.2 _ ?_ b⟩
  rw [← h.eq]
  exact List.mem_map.2 ⟨_, List.getElem_mem hj, rfl⟩
def ls1 : ByteArray := ⟨#[108, 105, 109, 105, 116, 32, 55, 10, 104, 97, 115, 104, 32, 54, 49, 32, 49, 10, 109, 97, 107, 101, 32, 49, 32, 50, 32, 51, 32, 52, 10, 114, 101, 108, 101, 97, 115, 101, 32, 53, 32, 54]⟩
def stL1 : PSt := match parseD ls1.data.toList with
  | .inl st => st
  | .inr _ => PSt.zero
theorem ls1_read : parseD ls1.data.toList = .inl stL1 := by kernel_rfl
theorem ls1_two : stL1.cs.length = 2 := by kernel_rfl
/-- marked of a script that was read. -/
theorem marked_of {lo : Nat} {st : PSt} {so sc : Option Addr} {co cc no nc : Nat} {L : List CmV} {W : World} (h : ScR lo st (.slice so no co) (.slice sc nc cc) L W) (hf : Fine st 1048577) (hno : st.os.length = no) (hnc : L.length = nc) (hlo : lo ≤ W.heap.size) (n : Int) : Calls Tryd.prog 10 #[.agg #[.int .i64 n, .slice so no co, .slice sc nc cc]] W fun e w' => e = .returned (.bool true) ∧ Keeps W w' (OwnS (.slice so no co) (.slice sc nc cc) L) := by
  subst hno hnc
  exact marked_any lo n so sc co cc st.os L W hlo h.os h.mkS (fine_few hf).1 (h.few hf).1 (h.few hf).2
theorem ScR.len {lo : Nat} {st : PSt} {vo vc : Value} {L : List CmV} {W : World} (h : ScR lo st vo vc L W) : L.length = st.cs.length := by
  have := congrArg List.length h.eq
  rwa [List.length_map] at this
set_option maxRecDepth 100000 in
set_option maxHeartbeats 16000000 in
theorem lists_walk (s : ByteArray) (w : World) (hs : s.size ≤ 9223372036854775807) (ht : TabW w) (hD : Deb w) (hR : RowsF w) (he : ErrW w) : Calls Tryd.prog 3 #[.string s] w fun e w' => e = .returned (.bool true) ∧ Keeps w w' (fun _ => False) := by
  have HPa := hide (fun (t : ByteArray) (hz : t.size ≤ 9223372036854775807) (W : World) (k : Keeps w W (fun _ => False)) => parse_any16 t hz W (hR.keeps k) (he.keeps k))
  have hp1 := HPa.out ls1 (by decide) w (Keeps.refl _ _)
  rw [ls1_read] at hp1
  unfold ls1 at hp1
  obtain ⟨hf0, -⟩ := parse_fine ls1_read
  have HF0 := hide (And.intro hf0 ls1_two)
  generalize stL1 = st0 at *
  have Hs := hide hs
  clear ht hD hR he hs hf0
  go_enter Tryd.func3, Tryd.ntmps3
  go_wp2_with fail
  (with_reducible refine hp1.mono ?_)
  rintro e w1 ⟨k1, vo0, vc0, L0, rfl, hS0⟩
  obtain ⟨so0, co0, rfl⟩ := ownsRow_slice hS0.os
  obtain ⟨sc0, cc0, rfl⟩ := ownsRow_slice hS0.cs
  have hl0 : L0.length = 2 := by rw [hS0.len, HF0.out.2]
  rw [hl0] at hS0 ⊢
  dsimp only
  go_upto_region 2 with fail
  refine alloc1 (P := fun W => Code.wp _ _ _ _ W) fun W1 hb1 hs1 kb1 => ?_
  obtain ⟨x0, x1, x2⟩ := three_cells9 hb1
  have hmk := marked_of (hS0.keeps kb1) HF0.out.1 rfl hl0 (Nat.le_trans k1.size kb1.size) st0.lim
  have HK1 := hide (k1.trans kb1 (fun _ _ e => e))
  have HO1 := hide (fun k (hk : OwnS (.slice so0 st0.os.length co0) (.slice sc0 2 cc0) L0 k) => ((hS0.keeps kb1).ownS hk).1)
  clear hp1 k1 hS0 hb1 hs1 kb1 hl0
  go_wp2_with fail
  (with_reducible refine hmk.mono ?_)
  rintro e w2 ⟨rfl, k2⟩
  have K2 := hide (HK1.out.trans k2 (fun q hq e => by
    have := HO1.out q e
    omega))
  clear hmk k2 HK1 HO1 HF0 x0 x1 x2
  have hp2 := HPa.out s Hs.out w2 K2.out
  cases hP : parseD s.data.toList with
  | inr x =>
    obtain ⟨er, -⟩ := parse_er hP
    rw [hP] at hp2
    obtain ⟨ln, ec⟩ := x
    dsimp only at er
    have hc0 : (ec != 0) = true := by rcases er with rfl | rfl <;> rfl
    go_wp2_with fail
    (with_reducible refine hp2.mono ?_)
    rintro e w3 ⟨k3, rfl⟩
    dsimp only
    go_upto_region 5 with fail
    refine alloc1 (P := fun W => Code.wp _ _ _ _ W) fun W3 hb3 hs3 kb3 => ?_
    have K3 := hide ((K2.out.trans k3 (fun _ _ e => e)).trans kb3 (fun _ _ e => e))
    have hp3 := HPa.out s Hs.out W3 K3.out
    rw [hP] at hp3
    clear hp2 k3 hb3 hs3 kb3 K2 hP
    go_wp2_with fail
    (with_reducible refine hp3.mono ?_)
    rintro e w4 ⟨k4, rfl⟩
    dsimp only
    go_upto_region 6 with fail
    refine alloc1 (P := fun W => Code.wp _ _ _ _ W) fun W4 hb4 hs4 kb4 => ?_
    have K4 := hide ((K3.out.trans k4 (fun _ _ e => e)).trans kb4 (fun _ _ e => e))
    clear hp3 k4 hb4 hs4 kb4 K3
    go_wp2_with fail
    go_ret
    exact ⟨rfl, K4.out⟩
  | inl st =>
    obtain ⟨hf, -⟩ := parse_fine hP
    have HF := hide hf
    have HP := hide hP
    rw [hP] at hp2
    clear hf hP
    go_wp2_with fail
    (with_reducible refine hp2.mono ?_)
    rintro e w3 ⟨k3, vo, vc, L, rfl, hS⟩
    obtain ⟨so, co, rfl⟩ := ownsRow_slice hS.os
    obtain ⟨sc, cc, rfl⟩ := ownsRow_slice hS.cs
    have HS3 := hide hS
    have Hlo := hide K2.out.size
    clear hp2 hS
    dsimp only
    go_upto_region 5 with fail
    refine alloc1 (P := fun W => Code.wp _ _ _ _ W) fun W3 hb3 hs3 kb3 => ?_
    have K3 := hide ((K2.out.trans k3 (fun _ _ e => e)).trans kb3 (fun _ _ e => e))
    have hp3 := HPa.out s Hs.out W3 K3.out
    rw [HP.out] at hp3
    have HS3b := hide (HS3.out.keeps kb3)
    have HOW : Hid (∀ k, OwnS (.slice so st.os.length co) (.slice sc L.length cc) L k → w.heap.size ≤ k ∧ k < W3.heap.size) := fun k hk => by
      obtain ⟨a, b⟩ := HS3b.out.ownS hk
      exact ⟨Nat.le_trans Hlo.out a, b⟩
    have Hsz3 := hide (Nat.le_trans k3.size kb3.size)
    have HbS := hide hb3
    have HBn : Hid (w3.heap.size < W3.heap.size) := heap_lt hb3
    clear hs3 k3 kb3 HS3 hb3 K2 Hlo
    obtain ⟨lo1, hlo1⟩ : ∃ lo1, w2.heap.size = lo1 := ⟨_, rfl⟩
    obtain ⟨B1, hB1⟩ : ∃ B1, w3.heap.size = B1 := ⟨_, rfl⟩
    rw [hlo1] at HS3b Hsz3
    rw [hB1] at HbS HBn ⊢
    clear hlo1 hB1
    go_wp2_with fail
    (with_reducible refine hp3.mono ?_)
    rintro e w4 ⟨k4, vo2, vc2, L2, rfl, hS2⟩
    obtain ⟨so2, co2, rfl⟩ := ownsRow_slice hS2.os
    obtain ⟨sc2, cc2, rfl⟩ := ownsRow_slice hS2.cs
    have HS4 := hide hS2
    clear hp3 hS2
    dsimp only
    go_upto_region 6 with fail
    refine alloc1 (P := fun W => Code.wp _ _ _ _ W) fun W4 hb4 hs4 kb4 => ?_
    have K34 := hide (k4.trans kb4 (fun _ _ e => e))
    have HT4 := hide (HS4.out.keeps kb4)
    have HbT := hide hb4
    have HBt : Hid (W3.heap.size ≤ w4.heap.size) := k4.size
    have hbS4 := K34.out.blk8 HbS.out
    obtain ⟨x0, x1, x2⟩ := three_cells9 hbS4
    clear hs4 k4 kb4 HS4 hb4 hbS4
    obtain ⟨B2, hB2⟩ : ∃ B2, w4.heap.size = B2 := ⟨_, rfl⟩
    rw [hB2] at HbT HBt ⊢
    clear hB2
    have hLn := hide (And.intro ((HS3b.out.few HF.out).1) HS3b.out.len)
    go_wp2_with fail
    clear x0 x1 x2
    go_loopw [53] (fun v53 wr => ∃ i : Nat, v53 = .int .i64 (i : Int) ∧ i ≤ L.length ∧ Keeps W4 wr (fun _ => False)) (fun v53 _ => L.length - (intOf v53).toNat)
    case atStart => exact ⟨0, rfl, Nat.zero_le _, Keeps.refl _ _⟩
    case round =>
      obtain ⟨i, rfl, hi, K⟩ := hrel
      by_cases hlt : i < L.length
      · have hlt' : (i : Int) < (L.length : Int) := by omega
        have h0' : (0 : Int) ≤ (i : Int) := by omega
        have hSr := HS3b.out.keeps (K34.out.trans K (fun _ _ e => e))
        obtain ⟨gc, rfl⟩ := own_some hSr.cs (by omega)
        have hcl : ∀ j (u : Value), j < 9 → L[i].cells[j]? = some u → wr.cell? ⟨gc, i * 9 + j, none⟩ = some u := fun j u hj hu => by
          rw [hSr.cs.cellAt (i * 9 + j) (by omega), cmCells_at _ i hlt j hj]
          exact hu
        have hef := (hSr.each _ (List.getElem_mem hlt)).1
        have hes := (hSr.each _ (List.getElem_mem hlt)).2
        obtain ⟨sf, cf, ef⟩ := hef.form
        obtain ⟨sh, ch, eh⟩ := hes.form
        obtain ⟨nf, hnf⟩ : ∃ nf, L[i].c.fl.length = nf := ⟨_, rfl⟩
        obtain ⟨nh, hnh⟩ : ∃ nh, L[i].c.hl.length = nh := ⟨_, rfl⟩
        rw [hnf] at ef
        rw [hnh] at eh
        have q0 := hcl 0 _ (by omega) rfl
        have q1 := hcl 1 _ (by omega) rfl
        have q2 := hcl 2 _ (by omega) rfl
        have q3 := hcl 3 _ (by omega) rfl
        have q4 := hcl 4 _ (by omega) rfl
        have q5 := hcl 5 _ (by omega) rfl
        have q6 := hcl 6 _ (by omega) rfl
        have q7 := hcl 7 _ (by omega) rfl
        have q8 := hcl 8 _ (by omega) rfl
        rw [Nat.add_zero] at q0
        rw [ef] at q2
        rw [eh] at q3
        generalize L[i].c.op = op at q0
        generalize L[i].c.h = hh at q1
        generalize L[i].c.u = uu at q4
        generalize L[i].c.v = vv at q5
        generalize L[i].c.n = nn at q6
        generalize L[i].c.key = key at q7
        generalize L[i].c.elem = elem at q8
        have Hms : Hid (L.length - (i + 1) < L.length - i) := by show L.length - (i + 1) < L.length - i; omega
        have Hi : Hid (i + 1 ≤ L.length) := hlt
        have hw1 := hide (wr64s (n := i) (by have := hLn.out.1; omega))
        have HK := hide K
        clear hcl hSr hef hes ef eh hnf hnh hi K
        go_upto_region 11 with fail
        refine alloc1 (P := fun W => Code.wp _ _ _ _ W) fun W9 hb9 hz9 k9 => ?_
        obtain ⟨e0, e1, e2, e3, e4, e5, e6, e7, e8⟩ := at9 hb9
        have HK9 := hide (HK.out.trans k9 (fun _ _ e => e))
        clear q0 q1 q2 q3 q4 q5 q6 q7 q8 hb9 hz9 k9 HK
        obtain ⟨a6, a7⟩ := hw1.out
        by_cases hf4 : 400 < nf
        · have hf4' : (400 : Int) < (nf : Int) := by omega
          go_wp2_with fail
          go_ret
          exact ⟨rfl, (K3.out.trans K34.out (fun _ _ e => e)).trans HK9.out (fun _ _ e => e)⟩
        · have hf4' : ¬ (400 : Int) < (nf : Int) := by omega
          by_cases hh4 : 400 < nh
          · have hh4' : (400 : Int) < (nh : Int) := by omega
            go_wp2_with fail
            go_ret
            exact ⟨rfl, (K3.out.trans K34.out (fun _ _ e => e)).trans HK9.out (fun _ _ e => e)⟩
          · have hh4' : ¬ (400 : Int) < (nh : Int) := by omega
            go_wp2_with fail
            go_roundw
            case rel => exact ⟨i + 1, by go_num, Hi.out, HK9.out⟩
            case measure => simp [intOf]; exact Hms.out
      · obtain rfl : i = L.length := by omega
        have hlt' : ¬ (L.length : Int) < (L.length : Int) := by omega
        have HTr := hide (HT4.out.keeps K)
        have hbT := K.blk8 HbT.out
        obtain ⟨y0, y1, y2⟩ := three_cells9 hbT
        have hbS := K.blk8 (K34.out.blk8 HbS.out)
        obtain ⟨x0, x1, x2⟩ := three_cells9 hbS
        have HSr := hide (HS3b.out.keeps (K34.out.trans K (fun _ _ e => e)))
        have HK5 := hide (K34.out.trans K (fun _ _ e => e))
        have HFO := hide (HTr.out.fineO HF.out)
        have HFC := hide (HTr.out.fineC HF.out)
        have hcop := copied_any st.lim so2 sc2 co2 cc2 st.os L2 wr HFO.out HFC.out (fine_few HF.out).1 (HTr.out.few HF.out).1
        have HbTh := hide hbT
        have HbSh := hide hbS
        clear hbT hbS K hi HT4 HbT
        go_wp2_with fail
        (with_reducible refine hcop.mono ?_)
        rintro e w6 ⟨go6, co6, gc6, cc6, G, C, rfl, hcpy, k6⟩
        dsimp only
        go_upto_region 15 with fail
        refine alloc1 (P := fun W => Code.wp _ _ _ _ W) fun W6 hb6 hs6 kb6 => ?_
        have K6 := hide (HK5.out.trans (k6.trans kb6 (fun _ _ e => e)) (fun _ _ e => e))
        have HC6 := hide (hcpy.keepsS kb6 (fun _ e => e.elim))
        have HT6 := hide ((HTr.out.keeps k6).keeps kb6)
        have hS6 := (HSr.out.keeps k6).keeps kb6
        have HbT6 := hide (kb6.blk8 (k6.blk8 HbTh.out))
        have HbW6 := hide hb6
        have hbS6 := kb6.blk8 (k6.blk8 HbSh.out)
        obtain ⟨z0, z1, z2⟩ := three_cells9 hbS6
        have HBw : Hid (W3.heap.size ≤ w6.heap.size) := Nat.le_trans HK5.out.size k6.size
        have HBr : Hid (W3.heap.size ≤ wr.heap.size) := HK5.out.size
        have hmk := marked_of hS6 HF.out rfl rfl (by have := K6.out.size; have := Hsz3.out; omega) st.lim
        clear hcop hcpy k6 hb6 hs6 kb6 hS6 hbS6 HTr HSr HK5 HbTh HbSh x0 x1 x2 y0 y1 y2
        obtain ⟨B3, hB3⟩ : ∃ B3, w6.heap.size = B3 := ⟨_, rfl⟩
        rw [hB3] at HbW6 HBw ⊢
        clear hB3
        go_wp2_with fail
        (with_reducible refine hmk.mono ?_)
        rintro e w7 ⟨rfl, k7⟩
        have hout : ∀ q, OwnS (.slice so st.os.length co) (.slice sc L.length cc) L q → q < W3.heap.size := fun q hq => (HOW.out q hq).2
        have HT7 := hide (HT6.out.keepsS k7 hout)
        have HC7 := hide (HC6.out.keepsS k7 (fun q hq => Nat.lt_of_lt_of_le (hout q hq) HBr.out))
        have hbT7 := (k7.block B2 (heap_lt HbT6.out) (fun e => by have := hout _ e; have := HBt.out; omega)).trans HbT6.out
        have hbW7 := (k7.block B3 (heap_lt HbW6.out) (fun e => by have := hout _ e; have := HBw.out; omega)).trans HbW6.out
        have K7 := hide ((K3.out.trans K6.out (fun _ _ e => e)).trans k7 (fun q hq e => by have := (HOW.out q e).1; omega))
        have HbT7 := hide hbT7
        have HbW7 := hide hbW7
        have hp5 := HPa.out s Hs.out w7 K7.out
        rw [HP.out] at hp5
        clear hmk k7 hout hbT7 hbW7 HT6 HC6 HbT6 HbW6 K6 z0 z1 z2
        go_wp2_with fail
        (with_reducible refine hp5.mono ?_)
        rintro e w8 ⟨k8, vo8, vc8, L8, rfl, hS8⟩
        obtain ⟨so8, co8, rfl⟩ := ownsRow_slice hS8.os
        obtain ⟨sc8, cc8, rfl⟩ := ownsRow_slice hS8.cs
        dsimp only
        go_upto_region 18 with fail
        refine alloc1 (P := fun W => Code.wp _ _ _ _ W) fun W8 hb8 hs8 kb8 => ?_
        have hT8 := (HT7.out.keeps k8).keeps kb8
        have hC8 := (HC7.out.keepsS k8 (fun _ e => e.elim)).keepsS kb8 (fun _ e => e.elim)
        have hU8 := hS8.keeps kb8
        have bT8 := kb8.blk8 (k8.blk8 HbT7.out)
        have bW8 := kb8.blk8 (k8.blk8 HbW7.out)
        obtain ⟨x0, x1, x2⟩ := three_cells9 bT8
        obtain ⟨y0, y1, y2⟩ := three_cells9 bW8
        have K8 := hide ((K7.out.trans k8 (fun _ _ e => e)).trans kb8 (fun _ _ e => e))
        have hCo := hC8.ovIn HFO.out.ok
        have hCc := hC8.cmIn HFC.out.ok
        have hsm := same_true st.lim (.slice so2 st.os.length co2) (.slice (some ⟨go6, 0, none⟩) st.os.length co6) (.slice sc2 L2.length cc2) (.slice (some ⟨gc6, 0, none⟩) L2.length cc6) st.os L2 (newC G C L2) (newC_cs G C L2) W8 (hT8.fineO HF.out) hCo (hT8.fineC HF.out) hCc (by rw [hT8.eq]; exact Nat.le_trans HF.out.cost (by decide))
        have HS2 := hide (fun W (k : Keeps W8 W (fun _ => False)) => same_true st.lim (.slice so8 st.os.length co8) (.slice (some ⟨go6, 0, none⟩) st.os.length co6) (.slice sc8 L8.length cc8) (.slice (some ⟨gc6, 0, none⟩) L2.length cc6) st.os L8 (newC G C L2) ((newC_cs G C L2).trans (hT8.eq.trans hU8.eq.symm)) W ((hU8.fineO HF.out).keeps k) (hCo.keeps k) ((hU8.fineC HF.out).keeps k) (hCc.keeps k) (by rw [hU8.eq]; exact Nat.le_trans HF.out.cost (by decide)))
        have HbW8 := hide bW8
        have Hb8 := hide hb8
        clear hp5 k8 hS8 hb8 hs8 kb8 hT8 hC8 hU8 bT8 bW8 hCo hCc HT7 HC7 HbT7 HbW7 K7
        go_wp2_with fail
        (with_reducible refine hsm.mono ?_)
        rintro e w9 ⟨rfl, k9⟩
        have hs2 := HS2.out w9 k9
        have K9 := hide (K8.out.trans k9 (fun _ _ e => e))
        obtain ⟨y0, y1, y2⟩ := three_cells9 (k9.blk8 HbW8.out)
        obtain ⟨z0, z1, z2⟩ := three_cells9 (k9.blk8 Hb8.out)
        clear hsm k9 x0 x1 x2
        go_wp2_with fail
        (with_reducible refine hs2.mono ?_)
        rintro e w10 ⟨rfl, k10⟩
        have K10 := hide (K9.out.trans k10 (fun _ _ e => e))
        clear hs2 k10
        go_wp2_with fail
        go_ret
        exact ⟨rfl, K10.out⟩
end Go.Proofs.YtfpiibccggjjpaaDoor
