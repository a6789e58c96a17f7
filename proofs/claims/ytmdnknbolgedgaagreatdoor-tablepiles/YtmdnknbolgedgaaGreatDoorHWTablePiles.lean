/-
  TablePiles, where something is claimed (made by genwtp.py).
-/
import Derived.Test.YtmdnknbolgedgaaGreatDoorHWTPno
import Derived.Test.YtmdnknbolgedgaaGreatDoorTn15
namespace Go.Proofs.YtmdnknbolgedgaaGreatDoor
namespace tablePiles
open Go.RowKit Go.Shelf Ly Ct
set_option linter.unusedVariables false

set_option maxRecDepth 100000 in
set_option maxHeartbeats 8000000 in
theorem yes (sl : Value) (S N : Int) (H : Nat) (hH : H < 18446744073709551616) (l : Lay) (E : Int) (w : World) (hPar : ∀ W, Keeps w W (fun _ => False) → Calls Tryz.prog 9 #[sl] W fun r w' => r = .returned (.tuple #[.agg #[.int .i64 l.k, .int .i64 l.e, .int .i64 l.a, .int .i64 l.b, .int .i64 l.c, .int .i64 l.eo, .int .i64 l.bo, .int .i64 l.s, .int .i64 l.g], .int .i64 E]) ∧ Keeps W w' (fun _ => False)) (hT : TabAt w) (h0 : E = 0) (hv : validB l = true) (h1 : ¬ S < 8) (h2 : ¬ 256 < S) (h3 : bits BinOp.and IntKind.i64 S (S - 1) = 0) (h4 : ¬ N < 0) (h5 : ¬ 300 < N) (h6 : ¬ l.k < 2) :
    Calls Tryz.prog 3 #[.agg #[sl, .int .i64 S, .int .i64 N, .int .u64 (H : Int)]] w fun e w' => e = .returned (.bool true) ∧ Keeps w w' (fun _ => False) := by
  subst h0
  have HSw := hide (wrapS h1 h2)
  obtain ⟨j, G, hj, hG, hS⟩ := pow8' (by omega) (by omega) h3
  have hG32 : G ≤ 32 := by rw [hG]; exact Nat.pow_le_pow_right (by decide) hj
  have hG0 : 0 < G := by rw [hG]; exact Nat.two_pow_pos j
  have hvm := valid_more hv
  have hgm : G * l.g.toNat ≤ 32 * 3000 := Nat.mul_le_mul hG32 (by omega)
  have hgp : 0 < G * l.g.toNat := Nat.mul_pos hG0 (by omega)
  have hcl := class_le (G * l.g.toNat) hgp (by omega)
  obtain ⟨cN, hcN⟩ : ∃ cN, classN (G * l.g.toNat) = cN := ⟨_, rfl⟩
  rw [hcN] at hcl
  replace hcN := hide hcN
  have hNew : Hid (∀ W, Calls Tryz.prog 10 #[.int .i64 2097152] W fun e w' => ANewPost W 2097152 e w') := fun W => anew_yes 2097152 W (by omega)
  have hNum := fun x W => num8_any x W
  have hTn : Hid (∀ {W : World} {p : Nat} {F : Nat → Prop}, Arena W p F (AD.fresh 2097152) → (∀ k, F k → k < W.heap.size) → Calls Tryz.prog 12 #[.pointer (some ⟨p, 0, none⟩), .agg #[.int .i64 l.k, .int .i64 l.e, .int .i64 l.a, .int .i64 l.b, .int .i64 l.c, .int .i64 l.eo, .int .i64 l.bo, .int .i64 l.s, .int .i64 l.g], .int .i64 S, .int .i64 3] W fun e w' => e = .returned (.tuple #[.agg #[.pointer (some ⟨p, 0, none⟩), .int .i64 l.k, .int .i64 l.e, .int .i64 l.a, .int .i64 l.b, .int .i64 l.c, .int .i64 l.eo, .int .i64 l.bo, .int .i64 l.s, .int .i64 l.g, .int .i64 (16 : Int)], .int .i64 0]) ∧ ∃ d' f, Turned W w' p F d' ∧ d'.Fine ∧ d'.small ∧ TabD d' l 16 80 G f (fun _ => GC.zero) ∧ f 3 = 0 ∧ f 4 = ((8 * G : Nat) : Int) ∧ f 5 = 7 * (G : Int) ∧ f 7 = ((80 : Nat) : Int)) := fun {W p F} hA hFl => by
    have := tnew_yes hA (AD.fresh_fine (by omega)) (newG_fresh _) hFl l hv G j (by omega) hG 3 (by omega) (by omega) cN hcN.out (by omega) (by simp only [AD.fresh]; omega)
    rw [hS]
    refine this.mono ?_
    rintro e w' ⟨rfl, d', hTu, hF', hD, hAl⟩
    have hbs : (AD.fresh 2097152).bs.length = 16 := by simp [AD.fresh, zeros_length]
    have hmost : Pb.mostN ((8 * G : Nat) : Int) = 7 * (G : Int) := by
      unfold Pb.mostN
      rw [hG, Pb.pwS_yes j (by omega)]
      simp only [if_true]
      omega
    rw [hbs] at hD ⊢
    refine ⟨rfl, d', _, hTu, hF', ?_, hD, ?_, ?_, ?_, ?_⟩
    · refine hAl.small ?_
      intro x hx
      have hL : (((AD.fresh 2097152).took 64).took cN).L = [(16, 64), (80, cN)] := by
        rw [AD.took_L, AD.took_L, AD.took_bs]
        simp [AD.fresh, zeros_length]
      rw [hL] at hx
      simp only [List.mem_cons, List.not_mem_nil, or_false] at hx
      rcases hx with rfl | rfl
      · show 64 ≤ 1048576
        omega
      · exact hcl.2.2.1
    · rfl
    · rfl
    · exact hmost
    · rfl
  have H3 := hide h3
  obtain ⟨n, rfl⟩ := Int.eq_ofNat_of_zero_le (show 0 ≤ N by omega)
  have hn3 : n ≤ 300 := by omega
  have hdv : S.tdiv 8 = (G : Int) := by rw [hS, Int.tdiv_eq_ediv_of_nonneg (by omega)]; omega
  have HW : Hid (IntKind.i64.wrap (G : Int) = (G : Int) ∧ wrap64 (G : Int) = (G : Int) ∧ wrap64 ((G : Int) * 7) = (G : Int) * 7 ∧ IntKind.i64.wrap ((G : Int) * 7) = (G : Int) * 7 ∧ S.tdiv 8 = (G : Int)) := ⟨(wrG hG32).1, (wrG hG32).2, (wrapG hG32).1, (wrapG hG32).2, hdv⟩
  clear hdv
  have HS := hide (And.intro hS hG)
  clear hcl hgm hgp hvm hS hG h3 hcN
  have hb30 : bits BinOp.and IntKind.i64 S (S - 1) = 0 := H3.out
  go_enter Tryz.func3, Tryz.ntmps3
  go_wp2_with fail
  refine alloc1 (P := fun W => Calls _ _ _ W _) fun W0 hb hz K0 => ?_
  (with_reducible refine (hPar _ K0).mono ?_)
  rintro r w1 ⟨rfl, k1⟩
  have k2 : Keeps w1 (w1.alloc (.cells #[.int .i64 l.k, .int .i64 l.e, .int .i64 l.a, .int .i64 l.b, .int .i64 l.c, .int .i64 l.eo, .int .i64 l.bo, .int .i64 l.s, .int .i64 l.g] 27)) (fun _ => False) := (Keeps.refl _ _).alloc _
  have hb2 := k2.blk (k1.blk hb)
  have q0 : (w1.alloc (.cells #[.int .i64 l.k, .int .i64 l.e, .int .i64 l.a, .int .i64 l.b, .int .i64 l.c, .int .i64 l.eo, .int .i64 l.bo, .int .i64 l.s, .int .i64 l.g] 27)).cell? ⟨w.heap.size, 1, none⟩ = some (.int .i64 S) := by simp only [World.cell?, hb2]; rfl
  have q1 : (w1.alloc (.cells #[.int .i64 l.k, .int .i64 l.e, .int .i64 l.a, .int .i64 l.b, .int .i64 l.c, .int .i64 l.eo, .int .i64 l.bo, .int .i64 l.s, .int .i64 l.g] 27)).cell? ⟨w.heap.size, 2, none⟩ = some (.int .i64 (n : Int)) := by simp only [World.cell?, hb2]; rfl
  have K2 := hide ((K0.trans k1 (fun _ _ e => e)).trans k2 (fun _ _ e => e))
  have hb3 := heap_alloc_new w1 (.cells #[.int .i64 l.k, .int .i64 l.e, .int .i64 l.a, .int .i64 l.b, .int .i64 l.c, .int .i64 l.eo, .int .i64 l.bo, .int .i64 l.s, .int .i64 l.g] 27)
  have H2 := hide (And.intro hb2 hb3)
  have hz1 : Hid (w.heap.size < w1.heap.size) := heap_lt (k1.blk hb)
  clear hPar k1 k2 K0 hb hb2 hb3
  obtain ⟨wa, wb⟩ := HSw.out
  go_wp2_with fail
  clear wa wb hb30 H3
  generalize w1.alloc (.cells #[.int .i64 l.k, .int .i64 l.e, .int .i64 l.a, .int .i64 l.b, .int .i64 l.c, .int .i64 l.eo, .int .i64 l.bo, .int .i64 l.s, .int .i64 l.g] 27) = W2 at *
  generalize w1.heap.size = B3 at *
  (with_reducible refine (hNew.out _).mono ?_)
  rintro r W3 ⟨p, rfl, hA3, k3⟩
  clear q0 q1
  go_wp2_with fail
  refine (hNum _ _).mono ?_
  rintro r W4 ⟨rfl, rfl⟩
  obtain ⟨hb2, hb3⟩ := H2.out
  have hb4 := k3.blk hb2
  have hb5 := k3.blk hb3
  obtain ⟨l0, l1, l2, l3, l4, l5, l6, l7, l8⟩ := nine_cells hb5
  have q0 : W4.cell? ⟨w.heap.size, 1, none⟩ = some (.int .i64 S) := by simp only [World.cell?, hb4]; rfl
  have hTn5 := hTn.out (F := fun k => W2.heap.size ≤ k ∧ k < W4.heap.size) (hA3.mono (fun i hi q => ⟨q, hi⟩)) (fun k q => q.2)
  go_wp2_with fail
  (with_reducible refine hTn5.mono ?_)
  rintro r W5 ⟨rfl, d5, f5, hTu, hF5, hSm5, hD5, g3, g4, g5, g7⟩
  have hK4 : Keeps w W4 (fun _ => False) := K2.out.trans k3 (fun _ _ e => e)
  have hzW2 : Hid (w.heap.size < W2.heap.size ∧ B3 < W2.heap.size) := ⟨heap_lt hb2, heap_lt hb3⟩
  have hPS0 : Hid (∀ W6, W6.heap[W5.heap.size]? = some (.cells #[.pointer (some ⟨p, 0, none⟩), .int .i64 l.k, .int .i64 l.e, .int .i64 l.a, .int .i64 l.b, .int .i64 l.c, .int .i64 l.eo, .int .i64 l.bo, .int .i64 l.s, .int .i64 l.g, .int .i64 (16 : Int)] 36) → Keeps W5 W6 (fun _ => False) → PS w W6 p w.heap.size B3 W5.heap.size sl S (n : Int) H l G 0) := fun W6 hb7 k6 => by
    obtain ⟨z1, z2⟩ := hzW2.out
    have z3 := k3.size
    have z4 := hTu.2.size
    refine ⟨k6.blk (hTu.2.blkS hb4 (fun q => by have := q.1; omega)), k6.blk (hTu.2.blkS hb5 (fun q => by have := q.1; omega)), hb7, d5, f5, _, ⟨(hTu.1.mono (G := fun q => w.heap.size ≤ q ∧ ¬ (q = w.heap.size ∨ q = B3 ∨ q = W5.heap.size)) (fun i hi q => ?_)).keeps k6 (fun _ _ _ e => e), (hK4.trans hTu.2 (fun i hi q => by have := q.1; have := K2.out.size; omega)).trans k6 (fun _ _ e => e)⟩, hF5, hSm5, hD5, by rw [g3]; rfl, g4, by rw [g5]; omega, g7, pile_new⟩
    rcases q with q | q
    · have := q.1
      exact ⟨by omega, by omega⟩
    · exact ⟨by omega, by omega⟩
  obtain ⟨hS, hG⟩ := HS.out
  clear hTn hTn5 hNew q0 l0 l1 l2 l3 l4 l5 l6 l7 l8 hb4 hb5 hb2 hb3 H2 hA3 k3 hTu hF5 hSm5 hD5 g3 g4 g5 g7 hK4 hzW2 K2
  have hPS1 := hPS0.out _ (heap_alloc_new W5 (.cells #[.pointer (some ⟨p, 0, none⟩), .int .i64 l.k, .int .i64 l.e, .int .i64 l.a, .int .i64 l.b, .int .i64 l.c, .int .i64 l.eo, .int .i64 l.bo, .int .i64 l.s, .int .i64 l.g, .int .i64 (16 : Int)] 36)) ((Keeps.refl _ _).alloc _)
  replace hS := hide hS
  replace hG := hide hG
  clear hPS0 HS
  go_wp2_with fail
  generalize W5.alloc (.cells #[.pointer (some ⟨p, 0, none⟩), .int .i64 l.k, .int .i64 l.e, .int .i64 l.a, .int .i64 l.b, .int .i64 l.c, .int .i64 l.eo, .int .i64 l.bo, .int .i64 l.s, .int .i64 l.g, .int .i64 (16 : Int)] 36) = W6 at *
  obtain ⟨B1, hB1⟩ : ∃ B, w.heap.size = B := ⟨_, rfl⟩
  rw [hB1] at hPS1 ⊢
  generalize W5.heap.size = B7 at *
  refine (hNum _ _).mono ?_
  rintro r W7 ⟨rfl, hW7⟩
  subst hW7
  have qS : W7.cell? ⟨B1, 1, none⟩ = some (.int .i64 S) := by simp only [World.cell?, hPS1.b1]; rfl
  have HPS1 := hide hPS1
  clear hPS1
  obtain ⟨wd1, wd2, wd3, wd4, hdv⟩ := HW.out
  go_wp2_with fail
  clear qS wd1 wd2 wd3 wd4 hdv
  go_loopw [10] (fun v10 wr => ∃ k : Nat, v10 = .int .i64 (k : Int) ∧ k ≤ n ∧ Hid (PS w wr p B1 B3 B7 sl S (n : Int) H l G (min k (7 * G)))) (fun v10 _ => n - (intOf v10).toNat)
  case atStart => exact ⟨0, rfl, Nat.zero_le _, by rw [Nat.zero_min]; exact HPS1⟩
  case round =>
    clear HPS1
    obtain ⟨k, rfl, hkn, HP⟩ := hrel
    have qN : wr.cell? ⟨B1, 2, none⟩ = some (.int .i64 (n : Int)) := by simp only [World.cell?, HP.out.b1]; rfl
    by_cases hk : k < n
    · have hk' : (k : Int) < (n : Int) := by omega
      have hTk := txk_any hv k (by omega)
      have hTe := txe_any hv k (by omega)
      have HD := hide (HP.out.stay (Keeps.refl wr (fun _ => False)).drew)
      have SD := s14_of HD.out
      by_cases h7 : k < 7 * G
      · have h7' : ¬ (G : Int) * 7 ≤ (k : Int) := by omega
        have em : min k (7 * G) = k := Nat.min_eq_left (by omega)
        rw [em] at HD HP
        have hPr : ∀ W, Hid (PS w W p B1 B3 B7 sl S (n : Int) H l G k) → Calls Tryz.prog 13 #[.agg #[.pointer (some ⟨p, 0, none⟩), .int .i64 l.k, .int .i64 l.e, .int .i64 l.a, .int .i64 l.b, .int .i64 l.c, .int .i64 l.eo, .int .i64 l.bo, .int .i64 l.s, .int .i64 l.g, .int .i64 (16 : Int)], .int .u64 (H : Int), .string (txK l k)] W fun e w' => e = .returned (.tuple #[.int .i64 (((k / 8 : Nat) : Int) + 1), .int .i64 0]) ∧ Keeps W w' (fun _ => False) := fun W q => by
          have := ps_probes q.out hT hj hG.out hH (by omega) (by omega) (q := k) (by omega)
          rw [if_neg (Nat.lt_irrefl k)] at this
          exact this
        have hPu : ∀ W, Hid (PS w W p B1 B3 B7 sl S (n : Int) H l G k) → Calls Tryz.prog 15 #[.agg #[.pointer (some ⟨p, 0, none⟩), .int .i64 l.k, .int .i64 l.e, .int .i64 l.a, .int .i64 l.b, .int .i64 l.c, .int .i64 l.eo, .int .i64 l.bo, .int .i64 l.s, .int .i64 l.g, .int .i64 (16 : Int)], .int .u64 (H : Int), .string (txK l k), .string (txE l k), .int .i64 (k : Int)] W fun e w' => e = .returned (.tuple #[.int .i64 2, .int .i64 0]) ∧ Hid (PS w w' p B1 B3 B7 sl S (n : Int) H l G (k + 1)) := fun W q =>
          ps_put_new q.out hT hj hG.out hH (by omega) (by omega) ⟨heap_lt q.out.b1, heap_lt q.out.b3, heap_lt q.out.b7⟩
        have Hem : Hid (min (k + 1) (7 * G) = k + 1) := Nat.min_eq_left (by omega)
        have hdk := div8 k
        obtain ⟨⟨wk1, wk3⟩, wk2, wk4⟩ := wr8 (k := k) (by omega)
        generalize ((k / 8 : Nat) : Int) = k8 at *
        generalize txK l k = tk at *
        generalize txE l k = te at *
        clear HP em h7
        go_wp2_with fail
        go_region_held3 (fun w' => (w'.cell? ⟨B7, 0, none⟩ = some (.pointer (some ⟨p, 0, none⟩)) ∧ w'.cell? ⟨B7, 1, none⟩ = some (.int .i64 l.k) ∧ w'.cell? ⟨B7, 2, none⟩ = some (.int .i64 l.e) ∧ w'.cell? ⟨B7, 3, none⟩ = some (.int .i64 l.a) ∧ w'.cell? ⟨B7, 4, none⟩ = some (.int .i64 l.b) ∧ w'.cell? ⟨B7, 5, none⟩ = some (.int .i64 l.c) ∧ w'.cell? ⟨B7, 6, none⟩ = some (.int .i64 l.eo) ∧ w'.cell? ⟨B7, 7, none⟩ = some (.int .i64 l.bo) ∧ w'.cell? ⟨B7, 8, none⟩ = some (.int .i64 l.s) ∧ w'.cell? ⟨B7, 9, none⟩ = some (.int .i64 l.g) ∧ w'.cell? ⟨B7, 10, none⟩ = some (.int .i64 (16 : Int))) ∧ w'.cell? ⟨B1, 3, none⟩ = some (.int .u64 (H : Int)) ∧ w'.cell? ⟨B3, 0, none⟩ = some (.int .i64 l.k) ∧ w'.cell? ⟨B3, 1, none⟩ = some (.int .i64 l.e)) (with_reducible assumption)
          (first | (go_at_call 14; (with_reducible refine (hTk _).mono ?_); rintro r wA ⟨rfl, kA⟩; have PA := hide (HD.out.stay kA); have SA := s14_of PA.out) | (go_at_call 13; (with_reducible refine (hPr _ PA).mono ?_); rintro r wB ⟨rfl, kB⟩; have PB := hide (PA.out.stay kB); have SB := s14_of PB.out))
        have PD := hide (PB.out.stay (Keeps.refl wB (fun _ => False)).drew)
        have SB' := s14_of PD.out
        clear SD SA SB PA PB HD hPr
        go_wp2_with fail
        go_region_held3 (fun w' => (w'.cell? ⟨B7, 0, none⟩ = some (.pointer (some ⟨p, 0, none⟩)) ∧ w'.cell? ⟨B7, 1, none⟩ = some (.int .i64 l.k) ∧ w'.cell? ⟨B7, 2, none⟩ = some (.int .i64 l.e) ∧ w'.cell? ⟨B7, 3, none⟩ = some (.int .i64 l.a) ∧ w'.cell? ⟨B7, 4, none⟩ = some (.int .i64 l.b) ∧ w'.cell? ⟨B7, 5, none⟩ = some (.int .i64 l.c) ∧ w'.cell? ⟨B7, 6, none⟩ = some (.int .i64 l.eo) ∧ w'.cell? ⟨B7, 7, none⟩ = some (.int .i64 l.bo) ∧ w'.cell? ⟨B7, 8, none⟩ = some (.int .i64 l.s) ∧ w'.cell? ⟨B7, 9, none⟩ = some (.int .i64 l.g) ∧ w'.cell? ⟨B7, 10, none⟩ = some (.int .i64 (16 : Int))) ∧ w'.cell? ⟨B1, 3, none⟩ = some (.int .u64 (H : Int)) ∧ w'.cell? ⟨B3, 0, none⟩ = some (.int .i64 l.k) ∧ w'.cell? ⟨B3, 1, none⟩ = some (.int .i64 l.e)) (with_reducible assumption)
          (first | (go_at_call 14; (with_reducible refine (hTk _).mono ?_); rintro r wC ⟨rfl, kC⟩; have PC := hide (PD.out.stay kC); have SC := s14_of PC.out) | (go_at_call 14; (with_reducible refine (hTe _).mono ?_); rintro r wE ⟨rfl, kE⟩; have PE := hide (PC.out.stay kE); have SE := s14_of PE.out) | (go_at_call 15; (with_reducible refine (hPu _ PE).mono ?_); rintro r wF ⟨rfl, PF⟩; have SF := s14_of PF.out))
        clear SB' SC SE SF PC PE PD hPu hTk hTe
        go_wp2_with fail
        refine (hNum _ _).mono ?_
        rintro r wG ⟨rfl, hwG⟩
        subst hwG
        go_wp2_with fail
        refine (hNum _ _).mono ?_
        rintro r wI ⟨rfl, hwI⟩
        subst hwI
        go_wp2_with fail
        clear hdk wk1 wk2 wk3 wk4
        go_roundw
        case rel => exact ⟨k + 1, by go_num, by omega, by rw [Hem.out]; exact PF⟩
        case measure => simp [intOf]; omega
      · have h7' : (G : Int) * 7 ≤ (k : Int) := by omega
        have em : min k (7 * G) = 7 * G := Nat.min_eq_right (by omega)
        rw [em] at HD HP
        have hPr : ∀ W, Hid (PS w W p B1 B3 B7 sl S (n : Int) H l G (7 * G)) → Calls Tryz.prog 13 #[.agg #[.pointer (some ⟨p, 0, none⟩), .int .i64 l.k, .int .i64 l.e, .int .i64 l.a, .int .i64 l.b, .int .i64 l.c, .int .i64 l.eo, .int .i64 l.bo, .int .i64 l.s, .int .i64 l.g, .int .i64 (16 : Int)], .int .u64 (H : Int), .string (txK l k)] W fun e w' => e = .returned (.tuple #[.int .i64 (((7 * G / 8 : Nat) : Int) + 1), .int .i64 0]) ∧ Keeps W w' (fun _ => False) := fun W q => by
          have := ps_probes q.out hT hj hG.out hH (by omega) (by omega) (q := k) (by omega)
          rw [if_neg h7] at this
          exact this
        have hPu : ∀ W, Hid (PS w W p B1 B3 B7 sl S (n : Int) H l G (7 * G)) → Calls Tryz.prog 15 #[.agg #[.pointer (some ⟨p, 0, none⟩), .int .i64 l.k, .int .i64 l.e, .int .i64 l.a, .int .i64 l.b, .int .i64 l.c, .int .i64 l.eo, .int .i64 l.bo, .int .i64 l.s, .int .i64 l.g, .int .i64 (16 : Int)], .int .u64 (H : Int), .string (txK l k), .string (txE l k), .int .i64 (k : Int)] W fun e w' => e = .returned (.tuple #[.int .i64 3, .int .i64 0]) ∧ Hid (PS w w' p B1 B3 B7 sl S (n : Int) H l G (7 * G)) := fun W q =>
          ps_put_full q.out hT hj hG.out hH (by omega) rfl (by omega) (by omega)
        have Hem : Hid (min (k + 1) (7 * G) = 7 * G) := Nat.min_eq_right (by omega)
        have hd7 := div7 G
        obtain ⟨⟨wg1, wg3⟩, wg2, wg4⟩ := wr8 (k := 7 * G) (by omega)
        generalize ((7 * G / 8 : Nat) : Int) = k8 at *
        generalize txK l k = tk at *
        generalize txE l k = te at *
        clear HP em h7
        go_wp2_with fail
        go_region_held3 (fun w' => (w'.cell? ⟨B7, 0, none⟩ = some (.pointer (some ⟨p, 0, none⟩)) ∧ w'.cell? ⟨B7, 1, none⟩ = some (.int .i64 l.k) ∧ w'.cell? ⟨B7, 2, none⟩ = some (.int .i64 l.e) ∧ w'.cell? ⟨B7, 3, none⟩ = some (.int .i64 l.a) ∧ w'.cell? ⟨B7, 4, none⟩ = some (.int .i64 l.b) ∧ w'.cell? ⟨B7, 5, none⟩ = some (.int .i64 l.c) ∧ w'.cell? ⟨B7, 6, none⟩ = some (.int .i64 l.eo) ∧ w'.cell? ⟨B7, 7, none⟩ = some (.int .i64 l.bo) ∧ w'.cell? ⟨B7, 8, none⟩ = some (.int .i64 l.s) ∧ w'.cell? ⟨B7, 9, none⟩ = some (.int .i64 l.g) ∧ w'.cell? ⟨B7, 10, none⟩ = some (.int .i64 (16 : Int))) ∧ w'.cell? ⟨B1, 3, none⟩ = some (.int .u64 (H : Int)) ∧ w'.cell? ⟨B3, 0, none⟩ = some (.int .i64 l.k) ∧ w'.cell? ⟨B3, 1, none⟩ = some (.int .i64 l.e)) (with_reducible assumption)
          (first | (go_at_call 14; (with_reducible refine (hTk _).mono ?_); rintro r wA ⟨rfl, kA⟩; have PA := hide (HD.out.stay kA); have SA := s14_of PA.out) | (go_at_call 13; (with_reducible refine (hPr _ PA).mono ?_); rintro r wB ⟨rfl, kB⟩; have PB := hide (PA.out.stay kB); have SB := s14_of PB.out))
        have PD := hide (PB.out.stay (Keeps.refl wB (fun _ => False)).drew)
        have SB' := s14_of PD.out
        clear SD SA SB PA PB HD hPr
        go_wp2_with fail
        go_region_held3 (fun w' => (w'.cell? ⟨B7, 0, none⟩ = some (.pointer (some ⟨p, 0, none⟩)) ∧ w'.cell? ⟨B7, 1, none⟩ = some (.int .i64 l.k) ∧ w'.cell? ⟨B7, 2, none⟩ = some (.int .i64 l.e) ∧ w'.cell? ⟨B7, 3, none⟩ = some (.int .i64 l.a) ∧ w'.cell? ⟨B7, 4, none⟩ = some (.int .i64 l.b) ∧ w'.cell? ⟨B7, 5, none⟩ = some (.int .i64 l.c) ∧ w'.cell? ⟨B7, 6, none⟩ = some (.int .i64 l.eo) ∧ w'.cell? ⟨B7, 7, none⟩ = some (.int .i64 l.bo) ∧ w'.cell? ⟨B7, 8, none⟩ = some (.int .i64 l.s) ∧ w'.cell? ⟨B7, 9, none⟩ = some (.int .i64 l.g) ∧ w'.cell? ⟨B7, 10, none⟩ = some (.int .i64 (16 : Int))) ∧ w'.cell? ⟨B1, 3, none⟩ = some (.int .u64 (H : Int)) ∧ w'.cell? ⟨B3, 0, none⟩ = some (.int .i64 l.k) ∧ w'.cell? ⟨B3, 1, none⟩ = some (.int .i64 l.e)) (with_reducible assumption)
          (first | (go_at_call 14; (with_reducible refine (hTk _).mono ?_); rintro r wC ⟨rfl, kC⟩; have PC := hide (PD.out.stay kC); have SC := s14_of PC.out) | (go_at_call 14; (with_reducible refine (hTe _).mono ?_); rintro r wE ⟨rfl, kE⟩; have PE := hide (PC.out.stay kE); have SE := s14_of PE.out) | (go_at_call 15; (with_reducible refine (hPu _ PE).mono ?_); rintro r wF ⟨rfl, PF⟩; have SF := s14_of PF.out))
        clear SB' SC SE SF PC PE PD hPu hTk hTe
        go_wp2_with fail
        refine (hNum _ _).mono ?_
        rintro r wG ⟨rfl, hwG⟩
        subst hwG
        go_wp2_with fail
        refine (hNum _ _).mono ?_
        rintro r wI ⟨rfl, hwI⟩
        subst hwI
        go_wp2_with fail
        clear hd7 wg1 wg2 wg3 wg4
        go_roundw
        case rel => exact ⟨k + 1, by go_num, by omega, by rw [Hem.out]; exact PF⟩
        case measure => simp [intOf]; omega
    · obtain rfl : k = n := by omega
      have hk' : ¬ (k : Int) < (k : Int) := by omega
      obtain ⟨K, hK⟩ : ∃ K, min k (7 * G) = K := ⟨_, rfl⟩
      have hK1 : K ≤ k := by omega
      have hK2 : K ≤ 7 * G := by omega
      have hK3 : Hid (K = k ∨ K = 7 * G) := by show K = k ∨ K = 7 * G; omega
      rw [hK] at HP
      clear hK hkn
      go_wp2_with fail
      clear qN
      go_loopw [15] (fun v15 wr => ∃ q : Nat, v15 = .int .i64 (q : Int) ∧ q ≤ K ∧ Hid (PS w wr p B1 B3 B7 sl S (k : Int) H l G K)) (fun v15 _ => K - (intOf v15).toNat)
      case atStart => exact ⟨0, rfl, Nat.zero_le _, HP⟩
      case round =>
        clear HP
        obtain ⟨q, rfl, hqK, HP⟩ := hrel
        have qN : wr.cell? ⟨B1, 2, none⟩ = some (.int .i64 (k : Int)) := by simp only [World.cell?, HP.out.b1]; rfl
        by_cases hq : q < K
        · have hq1 : (q : Int) < (k : Int) := by omega
          have hq2 : (q : Int) < (G : Int) * 7 := by omega
          have hTk := txk_any hv q (by omega)
          have HD := hide (HP.out.stay (Keeps.refl wr (fun _ => False)).drew)
          have SD := s14_of HD.out
          have hMl : Pb.metN (H / 128) G (q / 8) < G := Pb.metN_lt hG0
          have hFi : ∀ W, Hid (PS w W p B1 B3 B7 sl S (k : Int) H l G K) → Calls Tryz.prog 16 #[.agg #[.pointer (some ⟨p, 0, none⟩), .int .i64 l.k, .int .i64 l.e, .int .i64 l.a, .int .i64 l.b, .int .i64 l.c, .int .i64 l.eo, .int .i64 l.bo, .int .i64 l.s, .int .i64 l.g, .int .i64 (16 : Int)], .int .u64 (H : Int), .string (txK l q)] W fun e w' => e = .returned (.tuple #[.int .i64 (8 * ((Pb.metN (H / 128) G (q / 8) : Nat) : Int) + ((q % 8 : Nat) : Int)), .int .i64 0]) ∧ Keeps W w' (fun _ => False) := fun W z => by
            have := ps_find z.out hT hj hG.out hH (by omega) hK2 hq
            rw [slotI] at this
            exact this
          have hPr : ∀ W, Hid (PS w W p B1 B3 B7 sl S (k : Int) H l G K) → Calls Tryz.prog 13 #[.agg #[.pointer (some ⟨p, 0, none⟩), .int .i64 l.k, .int .i64 l.e, .int .i64 l.a, .int .i64 l.b, .int .i64 l.c, .int .i64 l.eo, .int .i64 l.bo, .int .i64 l.s, .int .i64 l.g, .int .i64 (16 : Int)], .int .u64 (H : Int), .string (txK l q)] W fun e w' => e = .returned (.tuple #[.int .i64 (((q / 8 : Nat) : Int) + 1), .int .i64 0]) ∧ Keeps W w' (fun _ => False) := fun W z => by
            have := ps_probes z.out hT hj hG.out hH (by omega) hK2 (q := q) (by omega)
            rw [if_pos hq] at this
            exact this
          have hAt : ∀ W, Calls Tryz.prog 17 #[.int .u64 ((H / 128 : Nat) : Int), .int .i64 (G : Int), .int .i64 ((q / 8 : Nat) : Int)] W fun e w' => e = .returned (.int .i64 ((Pb.metN (H / 128) G (q / 8) : Nat) : Int)) ∧ w' = W := fun W => by
            have := Pb.at_yes (H / 128) j (q / 8) W (by omega) (by rw [← hG.out]; omega) (by omega)
            rw [← hG.out] at this
            exact this
          generalize Pb.metN (H / 128) G (q / 8) = M at *
          have hdk := div8 q
          have hmk := mod8 q
          obtain ⟨hd1, hd2⟩ := div128 H hH
          obtain ⟨⟨wk1, wk3⟩, wk2, wk4⟩ := wr8 (k := q) (by omega)
          obtain ⟨⟨wm1, wm2⟩, ⟨wn1, wn2⟩, wn3, wn4⟩ := wrM (M := M) (q := q) (by omega)
          generalize ((q / 8 : Nat) : Int) = q8 at *
          generalize ((q % 8 : Nat) : Int) = r8 at *
          generalize ((H / 128 : Nat) : Int) = h8 at *
          generalize txK l q = tk at *
          have HP' := HP
          clear HP
          go_wp2_with fail
          go_region_held3 (fun w' => (w'.cell? ⟨B7, 0, none⟩ = some (.pointer (some ⟨p, 0, none⟩)) ∧ w'.cell? ⟨B7, 1, none⟩ = some (.int .i64 l.k) ∧ w'.cell? ⟨B7, 2, none⟩ = some (.int .i64 l.e) ∧ w'.cell? ⟨B7, 3, none⟩ = some (.int .i64 l.a) ∧ w'.cell? ⟨B7, 4, none⟩ = some (.int .i64 l.b) ∧ w'.cell? ⟨B7, 5, none⟩ = some (.int .i64 l.c) ∧ w'.cell? ⟨B7, 6, none⟩ = some (.int .i64 l.eo) ∧ w'.cell? ⟨B7, 7, none⟩ = some (.int .i64 l.bo) ∧ w'.cell? ⟨B7, 8, none⟩ = some (.int .i64 l.s) ∧ w'.cell? ⟨B7, 9, none⟩ = some (.int .i64 l.g) ∧ w'.cell? ⟨B7, 10, none⟩ = some (.int .i64 (16 : Int))) ∧ w'.cell? ⟨B1, 3, none⟩ = some (.int .u64 (H : Int)) ∧ w'.cell? ⟨B3, 0, none⟩ = some (.int .i64 l.k) ∧ w'.cell? ⟨B3, 1, none⟩ = some (.int .i64 l.e)) (with_reducible assumption)
            (first | (go_at_call 14; (with_reducible refine (hTk _).mono ?_); rintro r wA ⟨rfl, kA⟩; have PA := hide (HD.out.stay kA); have SA := s14_of PA.out) | (go_at_call 16; (with_reducible refine (hFi _ PA).mono ?_); rintro r wB ⟨rfl, kB⟩; have PB := hide (PA.out.stay kB); have SB := s14_of PB.out))
          have PD := hide (PB.out.stay (Keeps.refl wB (fun _ => False)).drew)
          have SB' := s14_of PD.out
          clear SD SA SB PA PB HD hFi
          go_wp2_with fail
          go_region_held3 (fun w' => (w'.cell? ⟨B7, 0, none⟩ = some (.pointer (some ⟨p, 0, none⟩)) ∧ w'.cell? ⟨B7, 1, none⟩ = some (.int .i64 l.k) ∧ w'.cell? ⟨B7, 2, none⟩ = some (.int .i64 l.e) ∧ w'.cell? ⟨B7, 3, none⟩ = some (.int .i64 l.a) ∧ w'.cell? ⟨B7, 4, none⟩ = some (.int .i64 l.b) ∧ w'.cell? ⟨B7, 5, none⟩ = some (.int .i64 l.c) ∧ w'.cell? ⟨B7, 6, none⟩ = some (.int .i64 l.eo) ∧ w'.cell? ⟨B7, 7, none⟩ = some (.int .i64 l.bo) ∧ w'.cell? ⟨B7, 8, none⟩ = some (.int .i64 l.s) ∧ w'.cell? ⟨B7, 9, none⟩ = some (.int .i64 l.g) ∧ w'.cell? ⟨B7, 10, none⟩ = some (.int .i64 (16 : Int))) ∧ w'.cell? ⟨B1, 3, none⟩ = some (.int .u64 (H : Int)) ∧ w'.cell? ⟨B3, 0, none⟩ = some (.int .i64 l.k) ∧ w'.cell? ⟨B3, 1, none⟩ = some (.int .i64 l.e)) (with_reducible assumption)
            (first | (go_at_call 14; (with_reducible refine (hTk _).mono ?_); rintro r wC ⟨rfl, kC⟩; have PC := hide (PD.out.stay kC); have SC := s14_of PC.out) | (go_at_call 13; (with_reducible refine (hPr _ PC).mono ?_); rintro r wE ⟨rfl, kE⟩; have PE := hide (PC.out.stay kE); have SE := s14_of PE.out))
          have qH : wE.cell? ⟨B1, 3, none⟩ = some (.int .u64 (H : Int)) := SE.2.1
          have qS : wE.cell? ⟨B1, 1, none⟩ = some (.int .i64 S) := by simp only [World.cell?, PE.out.b1]; rfl
          clear SB' SC SE PC PD hPr hTk
          obtain ⟨wd1, wd2, wd3, wd4, hdv⟩ := HW.out
          go_wp2_with fail
          clear wd1 wd2 wd3 wd4 hdv
          refine (hAt _).mono ?_
          rintro r wG ⟨rfl, hwG⟩
          subst hwG
          go_wp2_with fail
          refine (hNum _ _).mono ?_
          rintro r wG2 ⟨rfl, hwG2⟩
          subst hwG2
          go_wp2_with fail
          refine (hNum _ _).mono ?_
          rintro r wI ⟨rfl, hwI⟩
          subst hwI
          go_wp2_with fail
          clear hdk hmk hd1 hd2 wk1 wk2 wk3 wk4 wm1 wm2 wn1 wn2 wn3 wn4
          go_roundw
          case rel => exact ⟨q + 1, by go_num, by omega, PE⟩
          case measure => simp [intOf]; omega
        · obtain rfl : q = K := by omega
          have HK := hide HP.out.keep
          rcases hK3.out with e | e
          · have hq1 : ¬ (q : Int) < (k : Int) := by omega
            clear HP hK3 e
            go_wp2_with fail
            go_ret
            exact ⟨rfl, HK.out⟩
          · by_cases hlt : q < k
            · have hq1 : (q : Int) < (k : Int) := by omega
              have hq2 : ¬ (q : Int) < (G : Int) * 7 := by omega
              clear HP hK3 e
              go_wp2_with fail
              go_ret
              exact ⟨rfl, HK.out⟩
            · have hq1 : ¬ (q : Int) < (k : Int) := by omega
              clear HP hK3 e
              go_wp2_with fail
              go_ret
              exact ⟨rfl, HK.out⟩
end tablePiles
end Go.Proofs.YtmdnknbolgedgaaGreatDoor
