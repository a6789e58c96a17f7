/-
  script: Read, its walk.
-/
import Derived.Test.YtomlmbhbadicbaaDoorSC21
namespace Go.Proofs.YtomlmbhbadicbaaDoor
open Go.RowKit
set_option linter.unusedVariables false

theorem op_set {W : World} {g j q : Nat} {u : Value} (h : W.cell? ⟨g, j, none⟩ = some u) (hne : g ≠ q) (v0 v1 v2 v3 v4 v5 v6 : Value) : (((((((W.setCell ⟨q, 0, none⟩ v0).setCell ⟨q, 1, none⟩ v1).setCell ⟨q, 2, none⟩ v2).setCell ⟨q, 3, none⟩ v3).setCell ⟨q, 4, none⟩ v4).setCell ⟨q, 5, none⟩ v5).setCell ⟨q, 6, none⟩ v6).cell? ⟨g, j, none⟩ = some u := by
  rw [cell_set_ne _ hne, cell_set_ne _ hne, cell_set_ne _ hne, cell_set_ne _ hne, cell_set_ne _ hne, cell_set_ne _ hne, cell_set_ne _ hne]
  exact h
theorem line_guess {line x : ByteArray} {xs : List ByteArray} (hw : wordsOf line = x :: xs) {i : Nat} (hi : i < 16) (hn : nmN i = x) {x0 x1 x2 : ByteArray} {r : List ByteArray} (hx : xs ++ emp3 = x0 :: x1 :: x2 :: r) {oo err n off : Int} {yes : Bool} {key elem : ByteArray} (hoo : oN i = oo)
    (hg : GX oo x0 x1 x2 err n off yes key elem) {op' err' n' off' : Int} {yes' : Bool} {key' elem' : ByteArray} (h : Told line op' err' n' off' yes' key' elem') :
    oo = op' ∧ err = err' ∧ n = tN op' err' n' ∧ off = tOff op' err' n' off' ∧ yes = tYes op' err' yes' ∧ key = tKey op' err' yes' key' ∧ elem = tElem op' err' yes' elem' := by
  obtain ⟨h1, h2⟩ := told_row hw h
  obtain ⟨ho, f1, f2, f3, -⟩ := h
  have e : oo = op' := hoo.symm.trans (name_inj ho hi (hn.trans h1)).2
  subst e
  rw [h2] at hx
  exact ⟨rfl, guess_told ho f1 f2 f3 hx hg⟩
set_option maxRecDepth 100000 in
set_option maxHeartbeats 4000000 in
theorem read_any (line : ByteArray) (hs : line.size ≤ 8388608) (w : World) (ht : TabW w) (hR : RowsAt w) (he : ErrW w) : Calls Tryd.prog 7 #[.string line] w fun e w' => (∃ v er, e = .returned (.tuple #[v, .int .i64 er]) ∧ ReadD line v er) ∧ Keeps w w' (fun _ => False) := by
  have HSp := hide (fun (W : World) (k : Keeps w W (fun _ => False)) => split_any line hs W (he.keeps k))
  have HRow := hide (fun (W : World) (k : Keeps w W (fun _ => False)) (x : ByteArray) => rowNamed_any x W (hR.keeps k))
  have HT := hide ht
  have HR := hide hR
  have HE := hide he
  clear ht hR he
  go_enter Tryd.func7, Tryd.ntmps7
  go_wp2_with fail
  refine alloc1 (P := fun W => Calls _ _ _ W _) fun W0 hb hz K0 => ?_
  (with_reducible refine (HSp.out W0 K0).mono ?_)
  rintro e W1 ⟨x, xs, hw, rfl, hwd, k1, hz1⟩
  have K1 := K0.trans k1 (fun _ _ e => e)
  rw [hz] at hwd hz1
  have c0 : W1.cell? ⟨w.heap.size + 1, 0, none⟩ = some (.string x) := by simp [World.cell?, hwd]
  have Hb1 := hide (k1.blk hb)
  have Hw := hide hw
  have Hwd := hide hwd
  have HK1 := hide K1
  clear hw hwd hb k1 K0 HSp K1
  go_wp2_with fail
  (with_reducible refine (HRow.out W1 HK1.out x).mono ?_)
  rintro e W2 ⟨hrow, k2⟩
  have HK2 := hide (HK1.out.trans k2 (fun _ _ e => e))
  have Hb2 := hide (k2.blk Hb1.out)
  have Hwd2 := hide (k2.blk Hwd.out)
  have hz2 := k2.size
  clear c0 Hb1 Hwd HRow k2
  rcases hrow with ⟨i, f, hi, hn, rfl⟩ | ⟨hno, rfl⟩
  · have Hi := hide hi
    have Hn := hide hn
    clear hi hn
    have kA : Keeps W2 (W2.alloc (.cells #[.string x, .int .i64 (kN i), .int .i64 (oN i), .string f] 31)) (fun _ => False) := (Keeps.refl _ _).alloc _
    have hbA := kA.blk Hb2.out
    have HbA := hide hbA
    have HKA := hide (HK2.out.trans kA (fun _ _ e => e))
    have HwA := hide (kA.blk Hwd2.out)
    have hrA := heap_alloc_new W2 (.cells #[.string x, .int .i64 (kN i), .int .i64 (oN i), .string f] 31)
    obtain ⟨⟨r0, r1, r2, r3, r4, r5, r6⟩, q0, q1, q2, q3, q4, q5, q6⟩ := ans_open hbA
    have k1' : (W2.alloc (.cells #[.string x, .int .i64 (kN i), .int .i64 (oN i), .string f] 31)).cell? ⟨W2.heap.size, 1, none⟩ = some (.int .i64 (kN i)) := by
      simp only [World.cell?]
      rw [hrA]
      rfl
    have o1' : (W2.alloc (.cells #[.string x, .int .i64 (kN i), .int .i64 (oN i), .string f] 31)).cell? ⟨W2.heap.size, 2, none⟩ = some (.int .i64 (oN i)) := by
      simp only [World.cell?]
      rw [hrA]
      rfl
    clear kA hbA
    by_cases hk : kN i = 3
    · have hro := fun oo => row_op (oo := oo) Hi.out hk
      generalize hoo : oN i = oo at *
      have HRO := hide (hro oo rfl)
      clear hro
      rw [hk] at *
      have Hoo := hide hoo
      clear hoo
      have hszA : (W2.alloc (.cells #[.string x, .int .i64 3, .int .i64 oo, .string f] 31)).heap.size = W2.heap.size + 1 := by simp
      have HrA := hide hrA
      clear hrA hk
      clear r0 r1 r2 r3 r4 r5 r6 q0 q1 q2 q3 q4 q5 q6
      go_wp2_with fail
      obtain ⟨x0, x1, x2, r, hx, hmem⟩ := three_words xs
      have hxs : ∀ y, y ∈ xs ∨ y = ⟨#[]⟩ → y.size ≤ 8388608 := by
        rintro y (hy | rfl)
        · exact Nat.le_trans (word_small line y (by rw [Hw.out]; exact List.mem_cons_of_mem _ hy)) hs
        · exact Nat.zero_le _
      have hlen : xs.length ≤ 8388608 := by
        have a := words_most line hs
        have b := words_len line
        rw [Hw.out] at b
        simp at b
        omega
      clear HK2 Hb2 Hwd2
      generalize (W2.alloc (.cells #[.string x, .int .i64 3, .int .i64 oo, .string f] 31)) = W3 at *
      have Hg := hide (fun (o : Nat) (ho : xs = [] ∨ o = 1) (c : Nat) (hc : xs.length = c) (W : World) (k : Keeps W3 W (fun _ => False)) => guess_any oo (w.heap.size + 1) o c xs hc W (fun j u hj => by
        rcases ho with ho | ho
        · rw [ho] at hj
          simp at hj
        · refine keeps_cell k ?_
          simp only [World.cell?, HwA.out]
          rw [ho, Nat.add_comm 1 j]
          simpa using hj) (by omega) (HE.out.keeps (HKA.out.trans k (fun _ _ e => e))) x0 x1 x2 r hx (hxs _ (hmem _ (by simp))) (hxs _ (hmem _ (by simp))) (hxs _ (hmem _ (by simp))))
      have KD := hide ((Keeps.refl W3 (fun _ => False)).drew)
      have KSA := hide (((Keeps.refl W3 (fun _ => False)).alloc (.cells #[.int .i64 0, .int .i64 0, .int .i64 0, .int .i64 0, .bool false, .string ⟨#[]⟩, .string ⟨#[]⟩] 24)).drew)
      have SD : W3.drew.cell? ⟨W2.heap.size, 2, none⟩ = some (.int .i64 oo) := keeps_cell KD.out o1'
      have SA : (W3.alloc (.cells #[.int .i64 0, .int .i64 0, .int .i64 0, .int .i64 0, .bool false, .string ⟨#[]⟩, .string ⟨#[]⟩] 24)).drew.cell? ⟨W2.heap.size, 2, none⟩ = some (.int .i64 oo) := keeps_cell KSA.out o1'
      have hne3 : W2.heap.size ≠ W3.heap.size := by omega
      have HX := hide hx
      have HszA := hide hszA
      clear hszA
      clear hx hmem hxs
      obtain ⟨c, hc⟩ : ∃ c, c = xs.length := ⟨_, rfl⟩
      rw [← hc]
      have Hc := hide hc.symm
      clear hlen hc
      by_cases hc0 : c = 0
      · subst hc0
        rw [Nat.zero_add]
        have Hxe : Hid (xs = []) := List.eq_nil_of_length_eq_zero Hc.out
        replace Hg := hide (Hg.out 0 (Or.inl Hxe.out) 0 Hc.out)
        go_region_held3 (fun w' => w'.cell? ⟨W2.heap.size, 2, none⟩ = some (.int .i64 oo)) (with_reducible assumption)
          (first
            | (go_at_call 17; (with_reducible refine (Hg.out _ KSA.out).mono ?_); rintro e wA ⟨⟨v, rfl, hv⟩, kA⟩; (with_reducible have hbl := kA.blk (heap_new_drew W3 (.cells #[.int .i64 0, .int .i64 0, .int .i64 0, .int .i64 0, .bool false, .string ⟨#[]⟩, .string ⟨#[]⟩] 24))); obtain ⟨err, n, off, yes, key, elem, rfl, hg⟩ := hv; replace hg := hide hg; obtain ⟨⟨a0, a1, a2, a3, a4, a5, a6⟩, f0, f1, f2, f3, f4, f5, f6⟩ := ans_open hbl; replace hbl := hide hbl; have S1 : wA.cell? ⟨W2.heap.size, 2, none⟩ = some (.int .i64 oo) := keeps_cell kA SA; have S2 := op_set S1 hne3 (.int .i64 oo) (.int .i64 err) (.int .i64 n) (.int .i64 off) (.bool yes) (.string key) (.string elem))
            | (go_at_call 17; (with_reducible refine (Hg.out _ KD.out).mono ?_); rintro e wA ⟨⟨v, rfl, hv⟩, kA⟩; obtain ⟨err, n, off, yes, key, elem, rfl, hg⟩ := hv; replace hg := hide hg; have S1 : wA.cell? ⟨W2.heap.size, 2, none⟩ = some (.int .i64 oo) := keeps_cell kA SD; have S1a : (wA.alloc (.cells #[.int .i64 0, .int .i64 0, .int .i64 0, .int .i64 0, .bool false, .string ⟨#[]⟩, .string ⟨#[]⟩] 24)).cell? ⟨W2.heap.size, 2, none⟩ = some (.int .i64 oo) := keeps_cell ((Keeps.refl wA (fun _ => False)).alloc _) S1; have S2 : (wA.alloc (.cells #[.int .i64 oo, .int .i64 err, .int .i64 n, .int .i64 off, .bool yes, .string key, .string elem] 24)).cell? ⟨W2.heap.size, 2, none⟩ = some (.int .i64 oo) := keeps_cell ((Keeps.refl wA (fun _ => False)).alloc _) S1))
        · refine alloc1 (P := fun W => Exit.then _ _ _ _ W) fun W4 hb4 hz4 k4 => ?_
          have K34 : Keeps W3 W4 (fun _ => False) := (KD.out.trans kA (fun _ _ e => e)).trans k4 (fun _ _ e => e)
          clear k4 hz4 kA S1 S2 SD SA S1a KD KSA Hg
          have K4 := hide (HKA.out.trans K34 (fun _ _ e => e))
          have RB4 := hide (K34.blk HbA.out)
          obtain ⟨hge, hgn, hgo, hgk, hgl, hgx⟩ := hg.out
          have HLG := hide (fun op' err' n' off' yes' key' elem' (h : Told line op' err' n' off' yes' key' elem') => line_guess Hw.out Hi.out Hn.out HX.out Hoo.out hgx h)
          have hSh := show_any oo err n off yes key elem W4 hge hgn hgo hgk hgl (HT.out.keeps K4.out) (HR.out.keeps K4.out)
          have HGB := hide (And.intro hge (And.intro hgn (And.intro hgo (And.intro hgk hgl))))
          obtain ⟨⟨b0, b1, b2, b3, b4, b5, b6⟩, -⟩ := ans_open hb4
          have HB4 := hide hb4
          obtain ⟨S, hS⟩ : ∃ S, showD oo err n off yes key elem = S := ⟨_, rfl⟩
          rw [hS] at hSh
          have HS := hide hS
          clear hS hb4 hge hgn hgo hgk hgl hgx K34
          go_wp2_with fail
          (with_reducible refine hSh.mono ?_)
          rintro e w5 ⟨rfl, k5⟩
          clear hSh b0 b1 b2 b3 b4 b5 b6
          have rb5 := k5.blk RB4.out
          obtain ⟨⟨b0, b1, b2, b3, b4, b5, b6⟩, -⟩ := ans_open (k5.blk HB4.out)
          obtain ⟨⟨r0, r1, r2, r3, r4, r5, r6⟩, q0, q1, q2, q3, q4, q5, q6⟩ := ans_open rb5
          have RB5 := hide rb5
          have K5 := hide (K4.out.trans k5 (fun _ _ e => e))
          clear rb5 k5
          by_cases hSl : S = line
          · have y := str_yes hSl
            have HSl := hide hSl
            clear hSl
            go_wp2_with fail
            refine ans_set (P := bodyPost Tryd.prog _ _ Exit.ret _) RB5.out K5.out (Nat.le_refl _) (fun w9 hb9 k9 => ?_)
            obtain ⟨⟨d0, d1, d2, d3, d4, d5, d6⟩, -⟩ := ans_open hb9
            refine bodyPost_ret (v := .tuple #[.agg #[.int .i64 oo, .int .i64 err, .int .i64 n, .int .i64 off, .bool yes, .string key, .string elem], .int .i64 0]) (by simp [results, Tryd.results7, go_sem, d0, d1, d2, d3, d4, d5, d6]) rfl ?_
            refine ⟨⟨_, _, rfl, Or.inl ⟨_, _, _, _, _, _, _, rfl, HGB.out.1, HGB.out.2.1, HGB.out.2.2.1, HGB.out.2.2.2.1, HGB.out.2.2.2.2, HS.out.trans HSl.out, rfl, HRO.out⟩, fun op' err' n' off' yes' key' elem' h => ?_⟩, k9⟩
            obtain ⟨rfl, rfl, rfl, rfl, rfl, rfl, rfl⟩ := HLG.out _ _ _ _ _ _ _ h
            exact ⟨rfl, rfl⟩
          · have y := str_no hSl
            have HSl := hide hSl
            clear hSl
            go_wp2_with fail
            refine ans_set (P := bodyPost Tryd.prog _ _ Exit.ret _) RB5.out K5.out (Nat.le_refl _) (fun w9 hb9 k9 => ?_)
            obtain ⟨⟨d0, d1, d2, d3, d4, d5, d6⟩, -⟩ := ans_open hb9
            refine bodyPost_ret (v := .tuple #[.agg #[.int .i64 0, .int .i64 0, .int .i64 0, .int .i64 0, .bool false, .string ⟨#[]⟩, .string ⟨#[]⟩], .int .i64 160]) (by simp [results, Tryd.results7, go_sem, d0, d1, d2, d3, d4, d5, d6]) rfl ?_
            refine ⟨⟨_, _, rfl, Or.inr ⟨rfl, rfl⟩, fun op' err' n' off' yes' key' elem' h => ?_⟩, k9⟩
            obtain ⟨rfl, rfl, rfl, rfl, rfl, rfl, rfl⟩ := HLG.out _ _ _ _ _ _ _ h
            exact absurd (HS.out.symm.trans ((show_told h.1).trans h.2.2.2.2.symm)) HSl.out
        · refine ans_set (P := fun W => Exit.then _ _ _ _ W) hbl.out (KSA.out.trans kA (fun _ _ e => e)) (Nat.le_refl _) fun W4 hb4 K34 => ?_
          clear kA S1 S2 SD SA KD KSA Hg a0 a1 a2 a3 a4 a5 a6 f0 f1 f2 f3 f4 f5 f6
          have K4 := hide (HKA.out.trans K34 (fun _ _ e => e))
          have RB4 := hide (K34.blk HbA.out)
          obtain ⟨hge, hgn, hgo, hgk, hgl, hgx⟩ := hg.out
          have HLG := hide (fun op' err' n' off' yes' key' elem' (h : Told line op' err' n' off' yes' key' elem') => line_guess Hw.out Hi.out Hn.out HX.out Hoo.out hgx h)
          have hSh := show_any oo err n off yes key elem W4 hge hgn hgo hgk hgl (HT.out.keeps K4.out) (HR.out.keeps K4.out)
          have HGB := hide (And.intro hge (And.intro hgn (And.intro hgo (And.intro hgk hgl))))
          obtain ⟨⟨b0, b1, b2, b3, b4, b5, b6⟩, -⟩ := ans_open hb4
          have HB4 := hide hb4
          obtain ⟨S, hS⟩ : ∃ S, showD oo err n off yes key elem = S := ⟨_, rfl⟩
          rw [hS] at hSh
          have HS := hide hS
          clear hS hb4 hge hgn hgo hgk hgl hgx K34
          go_wp2_with fail
          (with_reducible refine hSh.mono ?_)
          rintro e w5 ⟨rfl, k5⟩
          clear hSh b0 b1 b2 b3 b4 b5 b6
          have rb5 := k5.blk RB4.out
          obtain ⟨⟨b0, b1, b2, b3, b4, b5, b6⟩, -⟩ := ans_open (k5.blk HB4.out)
          obtain ⟨⟨r0, r1, r2, r3, r4, r5, r6⟩, q0, q1, q2, q3, q4, q5, q6⟩ := ans_open rb5
          have RB5 := hide rb5
          have K5 := hide (K4.out.trans k5 (fun _ _ e => e))
          clear rb5 k5
          by_cases hSl : S = line
          · have y := str_yes hSl
            have HSl := hide hSl
            clear hSl
            go_wp2_with fail
            refine ans_set (P := bodyPost Tryd.prog _ _ Exit.ret _) RB5.out K5.out (Nat.le_refl _) (fun w9 hb9 k9 => ?_)
            obtain ⟨⟨d0, d1, d2, d3, d4, d5, d6⟩, -⟩ := ans_open hb9
            refine bodyPost_ret (v := .tuple #[.agg #[.int .i64 oo, .int .i64 err, .int .i64 n, .int .i64 off, .bool yes, .string key, .string elem], .int .i64 0]) (by simp [results, Tryd.results7, go_sem, d0, d1, d2, d3, d4, d5, d6]) rfl ?_
            refine ⟨⟨_, _, rfl, Or.inl ⟨_, _, _, _, _, _, _, rfl, HGB.out.1, HGB.out.2.1, HGB.out.2.2.1, HGB.out.2.2.2.1, HGB.out.2.2.2.2, HS.out.trans HSl.out, rfl, HRO.out⟩, fun op' err' n' off' yes' key' elem' h => ?_⟩, k9⟩
            obtain ⟨rfl, rfl, rfl, rfl, rfl, rfl, rfl⟩ := HLG.out _ _ _ _ _ _ _ h
            exact ⟨rfl, rfl⟩
          · have y := str_no hSl
            have HSl := hide hSl
            clear hSl
            go_wp2_with fail
            refine ans_set (P := bodyPost Tryd.prog _ _ Exit.ret _) RB5.out K5.out (Nat.le_refl _) (fun w9 hb9 k9 => ?_)
            obtain ⟨⟨d0, d1, d2, d3, d4, d5, d6⟩, -⟩ := ans_open hb9
            refine bodyPost_ret (v := .tuple #[.agg #[.int .i64 0, .int .i64 0, .int .i64 0, .int .i64 0, .bool false, .string ⟨#[]⟩, .string ⟨#[]⟩], .int .i64 160]) (by simp [results, Tryd.results7, go_sem, d0, d1, d2, d3, d4, d5, d6]) rfl ?_
            refine ⟨⟨_, _, rfl, Or.inr ⟨rfl, rfl⟩, fun op' err' n' off' yes' key' elem' h => ?_⟩, k9⟩
            obtain ⟨rfl, rfl, rfl, rfl, rfl, rfl, rfl⟩ := HLG.out _ _ _ _ _ _ _ h
            exact absurd (HS.out.symm.trans ((show_told h.1).trans h.2.2.2.2.symm)) HSl.out
      · have u1 : (1 : Int) ≤ (c : Int) + 1 := by omega
        have u2 : (0 : Int) ≤ (c : Int) := by omega
        replace Hg := hide (Hg.out 1 (Or.inr rfl) c Hc.out)
        go_region_held3 (fun w' => w'.cell? ⟨W2.heap.size, 2, none⟩ = some (.int .i64 oo)) (with_reducible assumption)
          (first
            | (go_at_call 17; (with_reducible refine (Hg.out _ KSA.out).mono ?_); rintro e wA ⟨⟨v, rfl, hv⟩, kA⟩; (with_reducible have hbl := kA.blk (heap_new_drew W3 (.cells #[.int .i64 0, .int .i64 0, .int .i64 0, .int .i64 0, .bool false, .string ⟨#[]⟩, .string ⟨#[]⟩] 24))); obtain ⟨err, n, off, yes, key, elem, rfl, hg⟩ := hv; replace hg := hide hg; obtain ⟨⟨a0, a1, a2, a3, a4, a5, a6⟩, f0, f1, f2, f3, f4, f5, f6⟩ := ans_open hbl; replace hbl := hide hbl; have S1 : wA.cell? ⟨W2.heap.size, 2, none⟩ = some (.int .i64 oo) := keeps_cell kA SA; have S2 := op_set S1 hne3 (.int .i64 oo) (.int .i64 err) (.int .i64 n) (.int .i64 off) (.bool yes) (.string key) (.string elem))
            | (go_at_call 17; (with_reducible refine (Hg.out _ KD.out).mono ?_); rintro e wA ⟨⟨v, rfl, hv⟩, kA⟩; obtain ⟨err, n, off, yes, key, elem, rfl, hg⟩ := hv; replace hg := hide hg; have S1 : wA.cell? ⟨W2.heap.size, 2, none⟩ = some (.int .i64 oo) := keeps_cell kA SD; have S1a : (wA.alloc (.cells #[.int .i64 0, .int .i64 0, .int .i64 0, .int .i64 0, .bool false, .string ⟨#[]⟩, .string ⟨#[]⟩] 24)).cell? ⟨W2.heap.size, 2, none⟩ = some (.int .i64 oo) := keeps_cell ((Keeps.refl wA (fun _ => False)).alloc _) S1; have S2 : (wA.alloc (.cells #[.int .i64 oo, .int .i64 err, .int .i64 n, .int .i64 off, .bool yes, .string key, .string elem] 24)).cell? ⟨W2.heap.size, 2, none⟩ = some (.int .i64 oo) := keeps_cell ((Keeps.refl wA (fun _ => False)).alloc _) S1))
        · refine alloc1 (P := fun W => Exit.then _ _ _ _ W) fun W4 hb4 hz4 k4 => ?_
          have K34 : Keeps W3 W4 (fun _ => False) := (KD.out.trans kA (fun _ _ e => e)).trans k4 (fun _ _ e => e)
          clear k4 hz4 kA S1 S2 SD SA S1a KD KSA Hg
          have K4 := hide (HKA.out.trans K34 (fun _ _ e => e))
          have RB4 := hide (K34.blk HbA.out)
          obtain ⟨hge, hgn, hgo, hgk, hgl, hgx⟩ := hg.out
          have HLG := hide (fun op' err' n' off' yes' key' elem' (h : Told line op' err' n' off' yes' key' elem') => line_guess Hw.out Hi.out Hn.out HX.out Hoo.out hgx h)
          have hSh := show_any oo err n off yes key elem W4 hge hgn hgo hgk hgl (HT.out.keeps K4.out) (HR.out.keeps K4.out)
          have HGB := hide (And.intro hge (And.intro hgn (And.intro hgo (And.intro hgk hgl))))
          obtain ⟨⟨b0, b1, b2, b3, b4, b5, b6⟩, -⟩ := ans_open hb4
          have HB4 := hide hb4
          obtain ⟨S, hS⟩ : ∃ S, showD oo err n off yes key elem = S := ⟨_, rfl⟩
          rw [hS] at hSh
          have HS := hide hS
          clear hS hb4 hge hgn hgo hgk hgl hgx K34
          go_wp2_with fail
          (with_reducible refine hSh.mono ?_)
          rintro e w5 ⟨rfl, k5⟩
          clear hSh b0 b1 b2 b3 b4 b5 b6
          have rb5 := k5.blk RB4.out
          obtain ⟨⟨b0, b1, b2, b3, b4, b5, b6⟩, -⟩ := ans_open (k5.blk HB4.out)
          obtain ⟨⟨r0, r1, r2, r3, r4, r5, r6⟩, q0, q1, q2, q3, q4, q5, q6⟩ := ans_open rb5
          have RB5 := hide rb5
          have K5 := hide (K4.out.trans k5 (fun _ _ e => e))
          clear rb5 k5
          by_cases hSl : S = line
          · have y := str_yes hSl
            have HSl := hide hSl
            clear hSl
            go_wp2_with fail
            refine ans_set (P := bodyPost Tryd.prog _ _ Exit.ret _) RB5.out K5.out (Nat.le_refl _) (fun w9 hb9 k9 => ?_)
            obtain ⟨⟨d0, d1, d2, d3, d4, d5, d6⟩, -⟩ := ans_open hb9
            refine bodyPost_ret (v := .tuple #[.agg #[.int .i64 oo, .int .i64 err, .int .i64 n, .int .i64 off, .bool yes, .string key, .string elem], .int .i64 0]) (by simp [results, Tryd.results7, go_sem, d0, d1, d2, d3, d4, d5, d6]) rfl ?_
            refine ⟨⟨_, _, rfl, Or.inl ⟨_, _, _, _, _, _, _, rfl, HGB.out.1, HGB.out.2.1, HGB.out.2.2.1, HGB.out.2.2.2.1, HGB.out.2.2.2.2, HS.out.trans HSl.out, rfl, HRO.out⟩, fun op' err' n' off' yes' key' elem' h => ?_⟩, k9⟩
            obtain ⟨rfl, rfl, rfl, rfl, rfl, rfl, rfl⟩ := HLG.out _ _ _ _ _ _ _ h
            exact ⟨rfl, rfl⟩
          · have y := str_no hSl
            have HSl := hide hSl
            clear hSl
            go_wp2_with fail
            refine ans_set (P := bodyPost Tryd.prog _ _ Exit.ret _) RB5.out K5.out (Nat.le_refl _) (fun w9 hb9 k9 => ?_)
            obtain ⟨⟨d0, d1, d2, d3, d4, d5, d6⟩, -⟩ := ans_open hb9
            refine bodyPost_ret (v := .tuple #[.agg #[.int .i64 0, .int .i64 0, .int .i64 0, .int .i64 0, .bool false, .string ⟨#[]⟩, .string ⟨#[]⟩], .int .i64 160]) (by simp [results, Tryd.results7, go_sem, d0, d1, d2, d3, d4, d5, d6]) rfl ?_
            refine ⟨⟨_, _, rfl, Or.inr ⟨rfl, rfl⟩, fun op' err' n' off' yes' key' elem' h => ?_⟩, k9⟩
            obtain ⟨rfl, rfl, rfl, rfl, rfl, rfl, rfl⟩ := HLG.out _ _ _ _ _ _ _ h
            exact absurd (HS.out.symm.trans ((show_told h.1).trans h.2.2.2.2.symm)) HSl.out
        · refine ans_set (P := fun W => Exit.then _ _ _ _ W) hbl.out (KSA.out.trans kA (fun _ _ e => e)) (Nat.le_refl _) fun W4 hb4 K34 => ?_
          clear kA S1 S2 SD SA KD KSA Hg a0 a1 a2 a3 a4 a5 a6 f0 f1 f2 f3 f4 f5 f6
          have K4 := hide (HKA.out.trans K34 (fun _ _ e => e))
          have RB4 := hide (K34.blk HbA.out)
          obtain ⟨hge, hgn, hgo, hgk, hgl, hgx⟩ := hg.out
          have HLG := hide (fun op' err' n' off' yes' key' elem' (h : Told line op' err' n' off' yes' key' elem') => line_guess Hw.out Hi.out Hn.out HX.out Hoo.out hgx h)
          have hSh := show_any oo err n off yes key elem W4 hge hgn hgo hgk hgl (HT.out.keeps K4.out) (HR.out.keeps K4.out)
          have HGB := hide (And.intro hge (And.intro hgn (And.intro hgo (And.intro hgk hgl))))
          obtain ⟨⟨b0, b1, b2, b3, b4, b5, b6⟩, -⟩ := ans_open hb4
          have HB4 := hide hb4
          obtain ⟨S, hS⟩ : ∃ S, showD oo err n off yes key elem = S := ⟨_, rfl⟩
          rw [hS] at hSh
          have HS := hide hS
          clear hS hb4 hge hgn hgo hgk hgl hgx K34
          go_wp2_with fail
          (with_reducible refine hSh.mono ?_)
          rintro e w5 ⟨rfl, k5⟩
          clear hSh b0 b1 b2 b3 b4 b5 b6
          have rb5 := k5.blk RB4.out
          obtain ⟨⟨b0, b1, b2, b3, b4, b5, b6⟩, -⟩ := ans_open (k5.blk HB4.out)
          obtain ⟨⟨r0, r1, r2, r3, r4, r5, r6⟩, q0, q1, q2, q3, q4, q5, q6⟩ := ans_open rb5
          have RB5 := hide rb5
          have K5 := hide (K4.out.trans k5 (fun _ _ e => e))
          clear rb5 k5
          by_cases hSl : S = line
          · have y := str_yes hSl
            have HSl := hide hSl
            clear hSl
            go_wp2_with fail
            refine ans_set (P := bodyPost Tryd.prog _ _ Exit.ret _) RB5.out K5.out (Nat.le_refl _) (fun w9 hb9 k9 => ?_)
            obtain ⟨⟨d0, d1, d2, d3, d4, d5, d6⟩, -⟩ := ans_open hb9
            refine bodyPost_ret (v := .tuple #[.agg #[.int .i64 oo, .int .i64 err, .int .i64 n, .int .i64 off, .bool yes, .string key, .string elem], .int .i64 0]) (by simp [results, Tryd.results7, go_sem, d0, d1, d2, d3, d4, d5, d6]) rfl ?_
            refine ⟨⟨_, _, rfl, Or.inl ⟨_, _, _, _, _, _, _, rfl, HGB.out.1, HGB.out.2.1, HGB.out.2.2.1, HGB.out.2.2.2.1, HGB.out.2.2.2.2, HS.out.trans HSl.out, rfl, HRO.out⟩, fun op' err' n' off' yes' key' elem' h => ?_⟩, k9⟩
            obtain ⟨rfl, rfl, rfl, rfl, rfl, rfl, rfl⟩ := HLG.out _ _ _ _ _ _ _ h
            exact ⟨rfl, rfl⟩
          · have y := str_no hSl
            have HSl := hide hSl
            clear hSl
            go_wp2_with fail
            refine ans_set (P := bodyPost Tryd.prog _ _ Exit.ret _) RB5.out K5.out (Nat.le_refl _) (fun w9 hb9 k9 => ?_)
            obtain ⟨⟨d0, d1, d2, d3, d4, d5, d6⟩, -⟩ := ans_open hb9
            refine bodyPost_ret (v := .tuple #[.agg #[.int .i64 0, .int .i64 0, .int .i64 0, .int .i64 0, .bool false, .string ⟨#[]⟩, .string ⟨#[]⟩], .int .i64 160]) (by simp [results, Tryd.results7, go_sem, d0, d1, d2, d3, d4, d5, d6]) rfl ?_
            refine ⟨⟨_, _, rfl, Or.inr ⟨rfl, rfl⟩, fun op' err' n' off' yes' key' elem' h => ?_⟩, k9⟩
            obtain ⟨rfl, rfl, rfl, rfl, rfl, rfl, rfl⟩ := HLG.out _ _ _ _ _ _ _ h
            exact absurd (HS.out.symm.trans ((show_told h.1).trans h.2.2.2.2.symm)) HSl.out
    · have hk3 : (kN i != 3) = true := by simp [hk]
      have hL : ∀ op err n off yes key elem, ¬ Told line op err n off yes key elem := fun op err n off yes key elem h =>
        hk (name_inj h.1 Hi.out (Hn.out.trans (told_row Hw.out h).1)).1
      have HL := hide hL
      clear hL hk hrA
      go_wp2_with fail
      refine ans_set (P := bodyPost Tryd.prog _ _ Exit.ret _) HbA.out HKA.out (Nat.le_refl _) (fun w9 hb9 k9 => ?_)
      obtain ⟨⟨d0, d1, d2, d3, d4, d5, d6⟩, -⟩ := ans_open hb9
      refine bodyPost_ret (v := .tuple #[.agg #[.int .i64 0, .int .i64 0, .int .i64 0, .int .i64 0, .bool false, .string ⟨#[]⟩, .string ⟨#[]⟩], .int .i64 160]) (by simp [results, Tryd.results7, go_sem, d0, d1, d2, d3, d4, d5, d6]) rfl ?_
      exact ⟨⟨_, _, rfl, Or.inr ⟨rfl, rfl⟩, fun _ _ _ _ _ _ _ h => absurd h (HL.out _ _ _ _ _ _ _)⟩, k9⟩
  · have hL : ∀ op err n off yes key elem, ¬ Told line op err n off yes key elem := fun op err n off yes key elem h => by
      obtain ⟨i, hi, e⟩ := name_there h.1
      exact hno i hi (e.trans (told_row Hw.out h).1.symm)
    have HL := hide hL
    have kA : Keeps W2 (W2.alloc (.cells #[.string ⟨#[]⟩, .int .i64 0, .int .i64 0, .string ⟨#[]⟩] 31)) (fun _ => False) := (Keeps.refl _ _).alloc _
    have hbA := kA.blk Hb2.out
    have HbA := hide hbA
    have HKA := hide (HK2.out.trans kA (fun _ _ e => e))
    obtain ⟨⟨r0, r1, r2, r3, r4, r5, r6⟩, q0, q1, q2, q3, q4, q5, q6⟩ := ans_open hbA
    clear hL hno kA hbA
    go_wp2_with fail
    refine ans_set (P := bodyPost Tryd.prog _ _ Exit.ret _) HbA.out HKA.out (Nat.le_refl _) (fun w9 hb9 k9 => ?_)
    obtain ⟨⟨d0, d1, d2, d3, d4, d5, d6⟩, -⟩ := ans_open hb9
    refine bodyPost_ret (v := .tuple #[.agg #[.int .i64 0, .int .i64 0, .int .i64 0, .int .i64 0, .bool false, .string ⟨#[]⟩, .string ⟨#[]⟩], .int .i64 160]) (by simp [results, Tryd.results7, go_sem, d0, d1, d2, d3, d4, d5, d6]) rfl ?_
    exact ⟨⟨_, _, rfl, Or.inr ⟨rfl, rfl⟩, fun _ _ _ _ _ _ _ h => absurd h (HL.out _ _ _ _ _ _ _)⟩, k9⟩
end Go.Proofs.YtomlmbhbadicbaaDoor
