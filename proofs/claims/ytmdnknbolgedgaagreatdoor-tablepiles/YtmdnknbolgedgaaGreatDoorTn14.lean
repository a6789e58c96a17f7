import Derived.Test.YtmdnknbolgedgaaGreatDoorRows
import Derived.ProofKit
import Derived.LaidMore
import Derived.OpenShut
import Derived.Stop.Joined
import Derived.Lib.LaidTab
import Derived.Test.YtmdnknbolgedgaaGreatDoorTn13
/-
  New.
-/
namespace Go.Proofs.YtmdnknbolgedgaaGreatDoor
open Go.RowKit Go.Shelf Ly Ct
set_option linter.unusedVariables false

theorem nine_cells {w : World} {b : Nat} {v0 v1 v2 v3 v4 v5 v6 v7 v8 : Value} {t : TypeId} (h : w.heap[b]? = some (.cells #[v0, v1, v2, v3, v4, v5, v6, v7, v8] t)) :
    w.cell? ⟨b, 0, none⟩ = some v0 ∧ w.cell? ⟨b, 1, none⟩ = some v1 ∧ w.cell? ⟨b, 2, none⟩ = some v2 ∧ w.cell? ⟨b, 3, none⟩ = some v3 ∧ w.cell? ⟨b, 4, none⟩ = some v4 ∧ w.cell? ⟨b, 5, none⟩ = some v5 ∧ w.cell? ⟨b, 6, none⟩ = some v6 ∧ w.cell? ⟨b, 7, none⟩ = some v7 ∧ w.cell? ⟨b, 8, none⟩ = some v8 := by
  simp [World.cell?, h]
/-- A layout's nine numbers in a block, and one cell more. -/
abbrev N10 (b : Nat) (l : Lay) (e : Nat) (v : Value) (W : World) : Prop := W.cell? ⟨b, 0, none⟩ = some (.int .i64 l.k) ∧ W.cell? ⟨b, 1, none⟩ = some (.int .i64 l.e) ∧ W.cell? ⟨b, 2, none⟩ = some (.int .i64 l.a) ∧ W.cell? ⟨b, 3, none⟩ = some (.int .i64 l.b) ∧ W.cell? ⟨b, 4, none⟩ = some (.int .i64 l.c) ∧ W.cell? ⟨b, 5, none⟩ = some (.int .i64 l.eo) ∧ W.cell? ⟨b, 6, none⟩ = some (.int .i64 l.bo) ∧ W.cell? ⟨b, 7, none⟩ = some (.int .i64 l.s) ∧ W.cell? ⟨b, 8, none⟩ = some (.int .i64 l.g) ∧ W.cell? ⟨e, 0, none⟩ = some v
theorem n10_keeps {W W1 : World} {b e : Nat} {l : Lay} {v : Value} {S : Nat → Prop} (k : Keeps W W1 S) (hb : ¬ S b) (he : ¬ S e) (h : N10 b l e v W) : N10 b l e v W1 := by
  obtain ⟨c0, c1, c2, c3, c4, c5, c6, c7, c8, c9⟩ := h
  have hc : ∀ q j v, ¬ S q → W.cell? ⟨q, j, none⟩ = some v → W1.cell? ⟨q, j, none⟩ = some v := fun q j v hq e => by
    have : q < W.heap.size := by
      refine Nat.lt_of_not_le fun hn => ?_
      rw [World.cell?, Array.getElem?_eq_none hn] at e
      cases e
    exact (World.cell?_of_block (w := W) (a := ⟨q, j, none⟩) (k.block q this hq)).trans e
  exact ⟨hc _ _ _ hb c0, hc _ _ _ hb c1, hc _ _ _ hb c2, hc _ _ _ hb c3, hc _ _ _ hb c4, hc _ _ _ hb c5, hc _ _ _ hb c6, hc _ _ _ hb c7, hc _ _ _ hb c8, hc _ _ _ he c9⟩
theorem n10_drew {W : World} {b e : Nat} {l : Lay} {v : Value} (h : N10 b l e v W) : N10 b l e v W.drew := n10_keeps (Keeps.refl W (fun _ => False)).drew id id h
theorem n10_alloc {W : World} {b e : Nat} {l : Lay} {v : Value} (h : N10 b l e v W) (o : Obj) : N10 b l e v (W.alloc o) := n10_keeps ((Keeps.refl W (fun _ => False)).alloc o) id id h
theorem n10_set {V : World} {b e x : Nat} {l : Lay} {v : Value} (h : N10 b l e v V) (hb : b ≠ x) (he : e ≠ x) {v0 v1 v2 v3 v4 v5 v6 v7 v8 v9 v10 : Value} : N10 b l e v (((((((((((V.setCell ⟨x, 0, none⟩ v0).setCell ⟨x, 1, none⟩ v1).setCell ⟨x, 2, none⟩ v2).setCell ⟨x, 3, none⟩ v3).setCell ⟨x, 4, none⟩ v4).setCell ⟨x, 5, none⟩ v5).setCell ⟨x, 6, none⟩ v6).setCell ⟨x, 7, none⟩ v7).setCell ⟨x, 8, none⟩ v8).setCell ⟨x, 9, none⟩ v9).setCell ⟨x, 10, none⟩ v10) := n10_keeps (S := fun i => i = x) ((((((((((((Keeps.refl V (fun i => i = x)).setCell ⟨x, 0, none⟩ (fun _ => rfl) _).setCell ⟨x, 1, none⟩ (fun _ => rfl) _).setCell ⟨x, 2, none⟩ (fun _ => rfl) _).setCell ⟨x, 3, none⟩ (fun _ => rfl) _).setCell ⟨x, 4, none⟩ (fun _ => rfl) _).setCell ⟨x, 5, none⟩ (fun _ => rfl) _).setCell ⟨x, 6, none⟩ (fun _ => rfl) _).setCell ⟨x, 7, none⟩ (fun _ => rfl) _).setCell ⟨x, 8, none⟩ (fun _ => rfl) _).setCell ⟨x, 9, none⟩ (fun _ => rfl) _).setCell ⟨x, 10, none⟩ (fun _ => rfl) _) hb he h
theorem heap_new_drew (w : World) (o : Obj) : (w.alloc o).drew.heap[w.heap.size]? = some o := heap_alloc_new w o
set_option maxHeartbeats 400000 in
theorem tbat_any (p : Nat) (l : Lay) (off : Int) (w : World) : Calls Tryz.prog 39 #[.pointer (some ⟨p, 0, none⟩), .agg #[.int .i64 l.k, .int .i64 l.e, .int .i64 l.a, .int .i64 l.b, .int .i64 l.c, .int .i64 l.eo, .int .i64 l.bo, .int .i64 l.s, .int .i64 l.g], .int .i64 off] w fun e w' => e = .returned (.agg #[.pointer (some ⟨p, 0, none⟩), .int .i64 l.k, .int .i64 l.e, .int .i64 l.a, .int .i64 l.b, .int .i64 l.c, .int .i64 l.eo, .int .i64 l.bo, .int .i64 l.s, .int .i64 l.g, .int .i64 off]) ∧ Keeps w w' (fun _ => False) := by
  go_enter Tryz.func39, Tryz.ntmps39
  go_wp2_with fail
  refine bodyPost_ret (v := .agg #[.pointer (some ⟨p, 0, none⟩), .int .i64 l.k, .int .i64 l.e, .int .i64 l.a, .int .i64 l.b, .int .i64 l.c, .int .i64 l.eo, .int .i64 l.bo, .int .i64 l.s, .int .i64 l.g, .int .i64 off]) (by simp [results, Tryz.results39, go_sem]) rfl ⟨rfl, ?_⟩
  exact ((Keeps.refl _ _).alloc _).alloc _
theorem pwL_yes : ∀ j, j < 14 → Ly.pw ((8 * 2 ^ j : Nat) : Int) 8 65536 = true := by decide
def TNewPost (d0 : AD) (w : World) (p : Nat) (F : Nat → Prop) (l : Lay) (G : Nat) (depth : Int) (off gr : Nat) (e : Ending) (w' : World) : Prop :=
  e = .returned (.tuple #[.agg #[.pointer (some ⟨p, 0, none⟩), .int .i64 l.k, .int .i64 l.e, .int .i64 l.a, .int .i64 l.b, .int .i64 l.c, .int .i64 l.eo, .int .i64 l.bo, .int .i64 l.s, .int .i64 l.g, .int .i64 (off : Int)], .int .i64 0]) ∧ ∃ d', Turned w w' p F d' ∧ d'.Fine ∧ TabD d' l off gr G (hdr0 ((8 * G : Nat) : Int) (Pb.mostN ((8 * G : Nat) : Int)) depth (gr : Int)) (fun _ => GC.zero) ∧ Alt d0 d' off gr (G * l.g.toNat)

set_option maxRecDepth 100000 in
set_option maxHeartbeats 8000000 in
theorem tnew_yes {w : World} {p : Nat} {F : Nat → Prop} {d : AD} (hA : Arena w p F d) (hF : d.Fine) (hW : newG d) (hFl : ∀ k, F k → k < w.heap.size) (l : Lay) (hv : validB l = true) (G j : Nat) (hj : j < 14) (hG : G = 2 ^ j) (depth : Int) (hd0 : 0 ≤ depth) (hd6 : depth ≤ 6) (c : Nat) (hc : classN (G * l.g.toNat) = c) (hm : G * l.g.toNat ≤ 1048576) (hu : d.used + 64 + c ≤ d.limit) :
    Calls Tryz.prog 12 #[.pointer (some ⟨p, 0, none⟩), .agg #[.int .i64 l.k, .int .i64 l.e, .int .i64 l.a, .int .i64 l.b, .int .i64 l.c, .int .i64 l.eo, .int .i64 l.bo, .int .i64 l.s, .int .i64 l.g], .int .i64 ((8 * G : Nat) : Int), .int .i64 depth] w fun e w' => TNewPost ((d.took 64).took c) w p F l G depth d.bs.length (d.bs.length + 64) e w' := by
  have hM : ∀ W, Calls Tryz.prog 36 #[.int .i64 ((8 * G : Nat) : Int)] W fun e w' => e = .returned (.int .i64 (((7 * G : Nat) : Int))) ∧ w' = W := fun W => by
    have e := Pb.most_any ((8 * G : Nat) : Int) W
    have e2 : Pb.mostN ((8 * G : Nat) : Int) = ((7 * G : Nat) : Int) := by
      unfold Pb.mostN
      rw [hG, Pb.pwS_yes j hj]
      simp only [if_true]
      omega
    rw [e2] at e
    exact e
  have hvm := valid_more hv
  have hGr : ∀ W, Calls Tryz.prog 38 #[.agg #[.int .i64 l.k, .int .i64 l.e, .int .i64 l.a, .int .i64 l.b, .int .i64 l.c, .int .i64 l.eo, .int .i64 l.bo, .int .i64 l.s, .int .i64 l.g], .int .i64 ((8 * G : Nat) : Int)] W fun r w' => r = .returned (.int .i64 ((G * l.g.toNat : Nat) : Int)) ∧ Keeps W w' (fun _ => False) := fun W => by
    have e : groupsD l ((8 * G : Nat) : Int) = ((G * l.g.toNat : Nat) : Int) := by
      unfold groupsD
      rw [if_pos ⟨by rw [hG]; exact pwL_yes j hj, hv⟩, show ((8 * G : Nat) : Int) / 8 = (G : Int) by omega, Int.natCast_mul, Int.toNat_of_nonneg (by omega)]
    have := groups_any l ((8 * G : Nat) : Int) W
    rw [e] at this
    refine this.mono ?_
    rintro r w' ⟨rfl, k⟩
    exact ⟨rfl, Keeps.ofKp k⟩
  have hG0 : 0 < G := by rw [hG]; exact Nat.two_pow_pos j
  have hG13 : G ≤ 8192 := by rw [hG]; exact Nat.pow_le_pow_right (by decide) (show j ≤ 13 by omega)
  have hgp : 0 < G * l.g.toNat := Nat.mul_pos hG0 (by omega)
  have hcl := class_le (G * l.g.toNat) hgp hm
  rw [hc] at hcl
  have hlm := hF.lim
  have hP0 : ∀ gn, G * l.g.toNat = gn → gn ≤ c → TabP ((d.took 64).took c) ((d.took 64).took c) l d.bs.length (d.bs.length + 64) G 0 (fun _ => 0) := fun gn e hle => newP (l := l) (G := G) (c := c) hF hv hG0 hG13 (by omega) (by have := hW.2; omega) hu
  have hbl := hW.2
  have hP := hP0 _ rfl hcl.1
  clear hP0
  generalize G * l.g.toNat = gm at *
  have h64 : classN 64 = 64 := by decide
  have hci : classI 64 = 64 := by unfold classI; rw [if_pos (by omega)]; simp [h64]
  have hci2 : classI (gm : Int) = (c : Int) := by unfold classI; rw [if_pos (by omega), Int.toNat_natCast, hc]
  have htk : takeAll newT d [64, (gm : Int)] = ([(d.bs.length : Int), ((d.bs.length + 64 : Nat) : Int)], (d.took 64).took c) := by
    have e1 : (d.took 64).bs.length = d.bs.length + 64 := by rw [AD.took_bs, List.length_append, zeros_length]
    simp [takeAll, newT, hci, hci2, e1]
  have hfi : fitsIn ((d.limit : Int) - (d.used : Int)) [64, (gm : Int)] = true := by
    simp only [fitsIn, hci, hci2]
    rw [if_neg (by omega), if_neg (by omega)]
  have hal : allOne [64, (gm : Int)] := fun z hz => by
    simp only [List.mem_cons, List.not_mem_nil, or_false] at hz
    rcases hz with rfl | rfl <;> omega
  have hAll : Hid (∀ W, Keeps w W (fun _ => False) → Calls Tryz.prog 37 #[.pointer (some ⟨p, 0, none⟩), .slice (some ⟨W.heap.size, 0, none⟩) 2 2] (W.alloc (.cells #[.int .i64 64, .int .i64 (gm : Int)] 3)) fun e w' => AllPost (W.alloc (.cells #[.int .i64 64, .int .i64 (gm : Int)] 3)) p F [(d.bs.length : Int), ((d.bs.length + 64 : Nat) : Int)] ((d.took 64).took c) e w') := fun W k => by
    have k0 : Keeps W (W.alloc (.cells #[.int .i64 64, .int .i64 (gm : Int)] 3)) (fun _ => False) := (Keeps.refl _ _).alloc _
    have := allocAll_some newOK (hA.keeps (k.trans k0 (fun _ _ e => e)) (fun _ _ _ e => e)) hW hF W.heap.size 0 2 [64, (gm : Int)] (fun i hi => by
      simp only [World.cell?, heap_alloc_new]
      match i, hi with
      | 0, _ => simp
      | 1, _ => simp) (fun q => by have := hFl _ q; have := k.size; omega) (by simp) (by simp) hal hfi
    rw [htk] at this
    exact this
  have hBe : Hid (∀ {W : World} {F' : Nat → Prop}, Arena W p F' ((d.took 64).took c) → (∀ k, F' k → k < W.heap.size) → Calls Tryz.prog 40 #[.agg #[.pointer (some ⟨p, 0, none⟩), .int .i64 l.k, .int .i64 l.e, .int .i64 l.a, .int .i64 l.b, .int .i64 l.c, .int .i64 l.eo, .int .i64 l.bo, .int .i64 l.s, .int .i64 l.g, .int .i64 (d.bs.length : Int)], .int .i64 ((8 * G : Nat) : Int), .int .i64 depth, .int .i64 ((d.bs.length + 64 : Nat) : Int)] W fun e w' => (∃ v, e = .returned v) ∧ ∃ d', Turned W w' p F' d' ∧ d'.Fine ∧ TabD d' l d.bs.length (d.bs.length + 64) G (hdr0 ((8 * G : Nat) : Int) (Pb.mostN ((8 * G : Nat) : Int)) depth ((d.bs.length + 64 : Nat) : Int)) (fun _ => GC.zero) ∧ Alt ((d.took 64).took c) d' d.bs.length (d.bs.length + 64) (G * l.g.toNat)) := fun hA' hFl' =>
    begin_any hA' hFl' l d.bs.length (d.bs.length + 64) G hP depth (fitsI_mk (by omega) (by omega))
  have h7 : (((7 * G : Nat) : Int) == 0) = false := by
    rw [beq_eq_false_iff_ne]
    omega
  have hd0' : ¬ depth < 0 := by omega
  have hd6' : ¬ 6 < depth := by omega
  unfold TNewPost
  generalize hdr0 ((8 * G : Nat) : Int) (Pb.mostN ((8 * G : Nat) : Int)) depth ((d.bs.length + 64 : Nat) : Int) = ff at *
  generalize ((8 * G : Nat) : Int) = sl at *
  generalize (gm : Int) = gn at *
  generalize ((7 * G : Nat) : Int) = g7 at *
  clear hvm hci hci2 htk hfi hal hcl hP hlm hbl
  go_enter Tryz.func12, Tryz.ntmps12
  go_wp2_with fail
  refine alloc2 (P := fun W => Calls _ _ _ W _) fun W0 hb hr hz K0 => ?_
  (with_reducible refine (hM _).mono ?_)
  rintro r w1 ⟨rfl, rfl⟩
  have hb9 := nine_cells hb
  obtain ⟨l0, l1, l2, l3, l4, l5, l6, l7, l8⟩ := hb9
  go_wp2_with fail
  (with_reducible refine (hGr _).mono ?_)
  rintro r w2 ⟨rfl, k2⟩
  go_wp2_with fail
  (with_reducible refine (hAll.out w2 (K0.trans k2 (fun _ _ e => e))).mono ?_)
  rintro r w3 ⟨ho, hho, rfl, hbo, hA3, k3⟩
  have hnl : ¬ F w.heap.size := fun q => Nat.lt_irrefl _ (hFl _ q)
  have hsz2 := k2.size
  have hb3 : w3.heap[w.heap.size]? = some (.cells #[.int .i64 l.k, .int .i64 l.e, .int .i64 l.a, .int .i64 l.b, .int .i64 l.c, .int .i64 l.eo, .int .i64 l.bo, .int .i64 l.s, .int .i64 l.g] 27) := (k3.block _ (by simp; omega) hnl).trans (((Keeps.refl w2 (fun _ => False)).alloc _).blk (k2.blk hb))
  have ho0 : w3.cell? ⟨ho, 0, none⟩ = some (.int .i64 (d.bs.length : Int)) := by simp [World.cell?, hbo, cellI]
  have ho1 : w3.cell? ⟨ho, 1, none⟩ = some (.int .i64 ((d.bs.length + 64 : Nat) : Int)) := by simp [World.cell?, hbo, cellI]
  have C3 : N10 w.heap.size l ho (.int .i64 (d.bs.length : Int)) w3 := by
    obtain ⟨c0, c1, c2, c3, c4, c5, c6, c7, c8⟩ := nine_cells hb3
    exact ⟨c0, c1, c2, c3, c4, c5, c6, c7, c8, ho0⟩
  have hlb := heap_lt hb3
  have hlo := heap_lt hbo
  have hAt := fun W => tbat_any p l (d.bs.length : Int) W
  clear l0 l1 l2 l3 l4 l5 l6 l7 l8 hM hGr hAll
  simp only [List.length_cons, List.length_nil, Nat.zero_add, Nat.reduceAdd]
  go_wp2_with fail
  have SD : N10 w.heap.size l ho (.int .i64 (d.bs.length : Int)) w3.drew := n10_drew C3
  have SA : N10 w.heap.size l ho (.int .i64 (d.bs.length : Int)) (w3.alloc (Obj.cells #[.pointer none, .int .i64 0, .int .i64 0, .int .i64 0, .int .i64 0, .int .i64 0, .int .i64 0, .int .i64 0, .int .i64 0, .int .i64 0, .int .i64 0] 36)).drew := n10_drew (n10_alloc C3 _)
  have hr3 : w3.heap[w.heap.size + 1]? = some (.cells #[.pointer none, .int .i64 0, .int .i64 0, .int .i64 0, .int .i64 0, .int .i64 0, .int .i64 0, .int .i64 0, .int .i64 0, .int .i64 0, .int .i64 0] 36) := (k3.block _ (by have := heap_lt hr; simp; omega) (fun q => by have := hFl _ q; omega)).trans (((Keeps.refl w2 (fun _ => False)).alloc _).blk (k2.blk hr))
  have hx1 : w.heap.size ≠ w3.heap.size := by omega
  have hx2 : ho ≠ w3.heap.size := by omega
  go_region_held3 (fun w' => w'.cell? ⟨w.heap.size, 0, none⟩ = some (.int .i64 l.k) ∧ w'.cell? ⟨w.heap.size, 1, none⟩ = some (.int .i64 l.e) ∧ w'.cell? ⟨w.heap.size, 2, none⟩ = some (.int .i64 l.a) ∧ w'.cell? ⟨w.heap.size, 3, none⟩ = some (.int .i64 l.b) ∧ w'.cell? ⟨w.heap.size, 4, none⟩ = some (.int .i64 l.c) ∧ w'.cell? ⟨w.heap.size, 5, none⟩ = some (.int .i64 l.eo) ∧ w'.cell? ⟨w.heap.size, 6, none⟩ = some (.int .i64 l.bo) ∧ w'.cell? ⟨w.heap.size, 7, none⟩ = some (.int .i64 l.s) ∧ w'.cell? ⟨w.heap.size, 8, none⟩ = some (.int .i64 l.g) ∧ w'.cell? ⟨ho, 0, none⟩ = some (.int .i64 (d.bs.length : Int))) (with_reducible assumption)
    (first
      | (go_at_call 39; (with_reducible refine (hAt _).mono ?_); rintro r wA ⟨rfl, kA⟩; (with_reducible have hbl := kA.blk (heap_new_drew w3 (Obj.cells #[.pointer none, .int .i64 0, .int .i64 0, .int .i64 0, .int .i64 0, .int .i64 0, .int .i64 0, .int .i64 0, .int .i64 0, .int .i64 0, .int .i64 0] 36))); obtain ⟨⟨a0, a1, a2, a3, a4, a5, a6, a7, a8, a9, a10⟩, f0, f1, f2, f3, f4, f5, f6, f7, f8, f9, f10⟩ := eleven_cells hbl; have S1 : N10 w.heap.size l ho (.int .i64 (d.bs.length : Int)) wA := n10_keeps kA id id SA; have S2 := n10_set (x := w3.heap.size) (v0 := .pointer (some ⟨p, 0, none⟩)) (v1 := .int .i64 l.k) (v2 := .int .i64 l.e) (v3 := .int .i64 l.a) (v4 := .int .i64 l.b) (v5 := .int .i64 l.c) (v6 := .int .i64 l.eo) (v7 := .int .i64 l.bo) (v8 := .int .i64 l.s) (v9 := .int .i64 l.g) (v10 := .int .i64 (d.bs.length : Int)) S1 hx1 hx2)
      | (go_at_call 39; (with_reducible refine (hAt _).mono ?_); rintro r wA ⟨rfl, kA⟩; have hsA := kA.size; have S1 : N10 w.heap.size l ho (.int .i64 (d.bs.length : Int)) wA := n10_keeps kA id id SD; have S1a : N10 w.heap.size l ho (.int .i64 (d.bs.length : Int)) (wA.alloc (Obj.cells #[.pointer none, .int .i64 0, .int .i64 0, .int .i64 0, .int .i64 0, .int .i64 0, .int .i64 0, .int .i64 0, .int .i64 0, .int .i64 0, .int .i64 0] 36)) := n10_alloc S1 _; have S2 : N10 w.heap.size l ho (.int .i64 (d.bs.length : Int)) (wA.alloc (.cells #[.pointer (some ⟨p, 0, none⟩), .int .i64 l.k, .int .i64 l.e, .int .i64 l.a, .int .i64 l.b, .int .i64 l.c, .int .i64 l.eo, .int .i64 l.bo, .int .i64 l.s, .int .i64 l.g, .int .i64 (d.bs.length : Int)] 36)) := n10_alloc S1 _))
  · refine alloc1 (P := fun W => Exit.then _ _ _ _ W) fun W4 hb4 hz4 kA4 => ?_
    have k34 : Keeps w3 W4 (fun _ => False) := (((Keeps.refl w3 (fun _ => False)).drew.trans kA (fun _ _ e => e))).trans kA4 (fun _ _ e => e)
    have hBt : w3.heap.size ≤ wA.heap.size := kA.size
    have A3 := hA3.mono (G := fun k => ((F k ∨ (w2.alloc (.cells #[.int .i64 64, .int .i64 gn] 3)).heap.size ≤ k) ∧ k ≠ ho) ∧ k < w3.heap.size) (fun i hi q => ⟨q, hi⟩)
    have A4 := A3.keeps (k34.drew) (fun _ _ _ e => e)
    have hz2 : (w2.alloc (.cells #[.int .i64 64, .int .i64 gn] 3)).heap.size = w2.heap.size + 1 := by simp
    have hFl4 : ∀ k, (((F k ∨ (w2.alloc (.cells #[.int .i64 64, .int .i64 gn] 3)).heap.size ≤ k) ∧ k ≠ ho) ∧ k < w3.heap.size) → k < W4.drew.heap.size := fun k q => Nat.lt_of_lt_of_le q.2 k34.size
    have hnb : ¬ (((F wA.heap.size ∨ (w2.alloc (.cells #[.int .i64 64, .int .i64 gn] 3)).heap.size ≤ wA.heap.size) ∧ wA.heap.size ≠ ho) ∧ wA.heap.size < w3.heap.size) := fun q => by have := q.2; omega
    have hnr : ¬ (((F (w.heap.size + 1) ∨ (w2.alloc (.cells #[.int .i64 64, .int .i64 gn] 3)).heap.size ≤ w.heap.size + 1) ∧ w.heap.size + 1 ≠ ho) ∧ w.heap.size + 1 < w3.heap.size) := fun q => by
      rcases q.1.1 with e | e
      · have := hFl _ e; omega
      · omega
    have SD : C11 wA.heap.size p l (d.bs.length : Int) W4.drew ∧ W4.drew.cell? ⟨ho, 1, none⟩ = some (.int .i64 ((d.bs.length + 64 : Nat) : Int)) := ⟨c11_of hb4, (World.cell?_of_block (w := w3) (a := ⟨ho, 1, none⟩) (k34.block _ hlo id)).trans ho1⟩
    have hr4 := k34.blk hr3
    have hBe4 := hBe.out A4 hFl4
    rw [show ((d.bs.length + 64 : Nat) : Int) = (d.bs.length : Int) + 64 by omega] at hBe4
    have HH := hide (And.intro A3 (And.intro k34 (And.intro hnb (And.intro hnr hb4))))
    have HR := hide hr4
    clear hBe A3 A4 hA3 k34 hb4 hr4 hr3 S2 S1 SA kA
    go_wp2_with fail
    go_region_held3 (fun w' => (w'.cell? ⟨wA.heap.size, 0, none⟩ = some (.pointer (some ⟨p, 0, none⟩)) ∧ w'.cell? ⟨wA.heap.size, 1, none⟩ = some (.int .i64 l.k) ∧ w'.cell? ⟨wA.heap.size, 2, none⟩ = some (.int .i64 l.e) ∧ w'.cell? ⟨wA.heap.size, 3, none⟩ = some (.int .i64 l.a) ∧ w'.cell? ⟨wA.heap.size, 4, none⟩ = some (.int .i64 l.b) ∧ w'.cell? ⟨wA.heap.size, 5, none⟩ = some (.int .i64 l.c) ∧ w'.cell? ⟨wA.heap.size, 6, none⟩ = some (.int .i64 l.eo) ∧ w'.cell? ⟨wA.heap.size, 7, none⟩ = some (.int .i64 l.bo) ∧ w'.cell? ⟨wA.heap.size, 8, none⟩ = some (.int .i64 l.s) ∧ w'.cell? ⟨wA.heap.size, 9, none⟩ = some (.int .i64 l.g) ∧ w'.cell? ⟨wA.heap.size, 10, none⟩ = some (.int .i64 (d.bs.length : Int))) ∧ w'.cell? ⟨ho, 1, none⟩ = some (.int .i64 ((d.bs.length + 64 : Nat) : Int))) (with_reducible assumption)
      (first | (go_at_call 40; (with_reducible refine hBe4.mono ?_); rintro r w5 ⟨⟨v, rfl⟩, d2, hT2, hF2, h2, ha2⟩; have S5 : C11 wA.heap.size p l (d.bs.length : Int) w5 ∧ w5.cell? ⟨ho, 1, none⟩ = some (.int .i64 ((d.bs.length + 64 : Nat) : Int)) := ⟨c11_keeps hT2.2 HH.out.2.2.1 SD.1, keeps_cell hT2.2 (fun q => q.1.2 rfl) SD.2⟩))
    all_goals (
      have hr5 := hT2.2.blkS HR.out HH.out.2.2.2.1
      have HT := hide (And.intro hT2 (And.intro hF2 (And.intro h2 ha2)))
      obtain ⟨⟨x0, x1, x2, x3, x4, x5, x6, x7, x8, x9, x10⟩, -⟩ := S5
      obtain ⟨⟨d0, d1, d2', d3, d4, d5, d6, d7, d8, d9, d10⟩, g0, g1, g2, g3, g4, g5, g6, g7', g8, g9, g10⟩ := eleven_cells hr5
      clear hT2 hF2 h2 ha2 SD hBe4
      go_wp2_with fail
      refine eleven_set hr5 (Keeps.refl w5 (fun i => i = w.heap.size + 1)) (fun _ => rfl) (P := fun w9 => bodyPost _ _ _ _ _ w9) fun w9 h9 k9 _ => ?_
      obtain ⟨⟨e0, e1, e2, e3, e4, e5, e6, e7, e8, e9, e10⟩, -⟩ := eleven_cells h9
      refine bodyPost_ret (v := .tuple #[.agg #[.pointer (some ⟨p, 0, none⟩), .int .i64 l.k, .int .i64 l.e, .int .i64 l.a, .int .i64 l.b, .int .i64 l.c, .int .i64 l.eo, .int .i64 l.bo, .int .i64 l.s, .int .i64 l.g, .int .i64 (d.bs.length : Int)], .int .i64 0]) (by simp [results, Tryz.results12, go_sem, e0, e1, e2, e3, e4, e5, e6, e7, e8, e9, e10]) rfl ⟨rfl, d2, ?_, HT.out.2.1, HT.out.2.2.1, HT.out.2.2.2⟩
      obtain ⟨A3, k34, hnb, hnr, -⟩ := HH.out
      have hT2 := HT.out.1
      have hzw := K0.size
      have hzk := k34.size
      refine ⟨(hT2.1.keeps k9 (fun i hi q e => ?_)).mono (fun i hi q => ?_), ?_⟩
      · subst e
        rcases q with q | q
        · exact hnr q
        · have : W4.drew.heap.size ≤ w.heap.size + 1 := q
          have : W4.heap.size ≤ w.heap.size + 1 := this
          omega
      · rcases q with q | q
        · rcases q.1.1 with e | e
          · exact Or.inl e
          · exact Or.inr (by omega)
        · have : W4.heap.size ≤ i := q
          exact Or.inr (by omega)
      · have kk2 : Keeps w (w2.alloc (.cells #[.int .i64 64, .int .i64 gn] 3)) (fun _ => False) := (K0.trans k2 (fun _ _ e => e)).alloc _
        have kk3 : Keeps w w3 F := (kk2.mono (fun _ _ e => e.elim)).trans k3 (fun _ _ e => e)
        have kk4 : Keeps w W4.drew F := (kk3.trans k34 (fun _ _ e => e.elim)).drew
        exact (kk4.trans hT2.2 (fun i hi q => by
          rcases q.1.1 with e | e
          · exact e
          · have := kk2.size; omega)).trans k9 (fun i hi e => by omega))
  · have kAA : Keeps w3 wA (fun _ => False) := (((Keeps.refl w3 (fun _ => False)).alloc _).drew.trans kA (fun _ _ e => e))
    refine eleven_set hbl kAA (fun e => absurd e (Nat.lt_irrefl _)) (P := fun W => Exit.then _ _ _ _ W) fun W4 hb4 k34 _ => ?_
    have hBt : w3.heap.size ≤ w3.heap.size := Nat.le_refl _
    clear a0 a1 a2 a3 a4 a5 a6 a7 a8 a9 a10 f0 f1 f2 f3 f4 f5 f6 f7 f8 f9 f10 kAA
    have A3 := hA3.mono (G := fun k => ((F k ∨ (w2.alloc (.cells #[.int .i64 64, .int .i64 gn] 3)).heap.size ≤ k) ∧ k ≠ ho) ∧ k < w3.heap.size) (fun i hi q => ⟨q, hi⟩)
    have A4 := A3.keeps (k34.drew) (fun _ _ _ e => e)
    have hz2 : (w2.alloc (.cells #[.int .i64 64, .int .i64 gn] 3)).heap.size = w2.heap.size + 1 := by simp
    have hFl4 : ∀ k, (((F k ∨ (w2.alloc (.cells #[.int .i64 64, .int .i64 gn] 3)).heap.size ≤ k) ∧ k ≠ ho) ∧ k < w3.heap.size) → k < W4.drew.heap.size := fun k q => Nat.lt_of_lt_of_le q.2 k34.size
    have hnb : ¬ (((F w3.heap.size ∨ (w2.alloc (.cells #[.int .i64 64, .int .i64 gn] 3)).heap.size ≤ w3.heap.size) ∧ w3.heap.size ≠ ho) ∧ w3.heap.size < w3.heap.size) := fun q => by have := q.2; omega
    have hnr : ¬ (((F (w.heap.size + 1) ∨ (w2.alloc (.cells #[.int .i64 64, .int .i64 gn] 3)).heap.size ≤ w.heap.size + 1) ∧ w.heap.size + 1 ≠ ho) ∧ w.heap.size + 1 < w3.heap.size) := fun q => by
      rcases q.1.1 with e | e
      · have := hFl _ e; omega
      · omega
    have SD : C11 w3.heap.size p l (d.bs.length : Int) W4.drew ∧ W4.drew.cell? ⟨ho, 1, none⟩ = some (.int .i64 ((d.bs.length + 64 : Nat) : Int)) := ⟨c11_of hb4, (World.cell?_of_block (w := w3) (a := ⟨ho, 1, none⟩) (k34.block _ hlo id)).trans ho1⟩
    have hr4 := k34.blk hr3
    have hBe4 := hBe.out A4 hFl4
    rw [show ((d.bs.length + 64 : Nat) : Int) = (d.bs.length : Int) + 64 by omega] at hBe4
    have HH := hide (And.intro A3 (And.intro k34 (And.intro hnb (And.intro hnr hb4))))
    have HR := hide hr4
    clear hBe A3 A4 hA3 k34 hb4 hr4 hr3 S2 S1 SA kA hbl
    go_wp2_with fail
    go_region_held3 (fun w' => (w'.cell? ⟨w3.heap.size, 0, none⟩ = some (.pointer (some ⟨p, 0, none⟩)) ∧ w'.cell? ⟨w3.heap.size, 1, none⟩ = some (.int .i64 l.k) ∧ w'.cell? ⟨w3.heap.size, 2, none⟩ = some (.int .i64 l.e) ∧ w'.cell? ⟨w3.heap.size, 3, none⟩ = some (.int .i64 l.a) ∧ w'.cell? ⟨w3.heap.size, 4, none⟩ = some (.int .i64 l.b) ∧ w'.cell? ⟨w3.heap.size, 5, none⟩ = some (.int .i64 l.c) ∧ w'.cell? ⟨w3.heap.size, 6, none⟩ = some (.int .i64 l.eo) ∧ w'.cell? ⟨w3.heap.size, 7, none⟩ = some (.int .i64 l.bo) ∧ w'.cell? ⟨w3.heap.size, 8, none⟩ = some (.int .i64 l.s) ∧ w'.cell? ⟨w3.heap.size, 9, none⟩ = some (.int .i64 l.g) ∧ w'.cell? ⟨w3.heap.size, 10, none⟩ = some (.int .i64 (d.bs.length : Int))) ∧ w'.cell? ⟨ho, 1, none⟩ = some (.int .i64 ((d.bs.length + 64 : Nat) : Int))) (with_reducible assumption)
      (first | (go_at_call 40; (with_reducible refine hBe4.mono ?_); rintro r w5 ⟨⟨v, rfl⟩, d2, hT2, hF2, h2, ha2⟩; have S5 : C11 w3.heap.size p l (d.bs.length : Int) w5 ∧ w5.cell? ⟨ho, 1, none⟩ = some (.int .i64 ((d.bs.length + 64 : Nat) : Int)) := ⟨c11_keeps hT2.2 HH.out.2.2.1 SD.1, keeps_cell hT2.2 (fun q => q.1.2 rfl) SD.2⟩))
    all_goals (
      have hr5 := hT2.2.blkS HR.out HH.out.2.2.2.1
      have HT := hide (And.intro hT2 (And.intro hF2 (And.intro h2 ha2)))
      obtain ⟨⟨x0, x1, x2, x3, x4, x5, x6, x7, x8, x9, x10⟩, -⟩ := S5
      obtain ⟨⟨d0, d1, d2', d3, d4, d5, d6, d7, d8, d9, d10⟩, g0, g1, g2, g3, g4, g5, g6, g7', g8, g9, g10⟩ := eleven_cells hr5
      clear hT2 hF2 h2 ha2 SD hBe4
      go_wp2_with fail
      refine eleven_set hr5 (Keeps.refl w5 (fun i => i = w.heap.size + 1)) (fun _ => rfl) (P := fun w9 => bodyPost _ _ _ _ _ w9) fun w9 h9 k9 _ => ?_
      obtain ⟨⟨e0, e1, e2, e3, e4, e5, e6, e7, e8, e9, e10⟩, -⟩ := eleven_cells h9
      refine bodyPost_ret (v := .tuple #[.agg #[.pointer (some ⟨p, 0, none⟩), .int .i64 l.k, .int .i64 l.e, .int .i64 l.a, .int .i64 l.b, .int .i64 l.c, .int .i64 l.eo, .int .i64 l.bo, .int .i64 l.s, .int .i64 l.g, .int .i64 (d.bs.length : Int)], .int .i64 0]) (by simp [results, Tryz.results12, go_sem, e0, e1, e2, e3, e4, e5, e6, e7, e8, e9, e10]) rfl ⟨rfl, d2, ?_, HT.out.2.1, HT.out.2.2.1, HT.out.2.2.2⟩
      obtain ⟨A3, k34, hnb, hnr, -⟩ := HH.out
      have hT2 := HT.out.1
      have hzw := K0.size
      have hzk := k34.size
      refine ⟨(hT2.1.keeps k9 (fun i hi q e => ?_)).mono (fun i hi q => ?_), ?_⟩
      · subst e
        rcases q with q | q
        · exact hnr q
        · have : W4.drew.heap.size ≤ w.heap.size + 1 := q
          have : W4.heap.size ≤ w.heap.size + 1 := this
          omega
      · rcases q with q | q
        · rcases q.1.1 with e | e
          · exact Or.inl e
          · exact Or.inr (by omega)
        · have : W4.heap.size ≤ i := q
          exact Or.inr (by omega)
      · have kk2 : Keeps w (w2.alloc (.cells #[.int .i64 64, .int .i64 gn] 3)) (fun _ => False) := (K0.trans k2 (fun _ _ e => e)).alloc _
        have kk3 : Keeps w w3 F := (kk2.mono (fun _ _ e => e.elim)).trans k3 (fun _ _ e => e)
        have kk4 : Keeps w W4.drew F := (kk3.trans k34 (fun _ _ e => e.elim)).drew
        exact (kk4.trans hT2.2 (fun i hi q => by
          rcases q.1.1 with e | e
          · exact e
          · have := kk2.size; omega)).trans k9 (fun i hi e => by omega))
end Go.Proofs.YtmdnknbolgedgaaGreatDoor
/-
  The law's text: a number as so many bytes.
-/
namespace Go.Proofs.YtmdnknbolgedgaaGreatDoor
open Go.RowKit Go.Shelf
set_option linter.unusedVariables false

def txB (n : Int) (i : Nat) : UInt8 := UInt8.ofNat ((n / 256 ^ i) % 256).toNat
def txL (n : Int) (w : Nat) : List UInt8 := (List.range w).map (txB n)
theorem txL_length (n : Int) (w : Nat) : (txL n w).length = w := by simp [txL]
theorem txL_succ (n : Int) (w : Nat) : txL n (w + 1) = txL n w ++ [txB n w] := by simp [txL, List.range_succ]
theorem txB_nat (n : Int) (i : Nat) : ((txB n i).toNat : Int) = (n / 256 ^ i) % 256 := by
  unfold txB
  have h1 := Int.emod_nonneg (n / 256 ^ i) (show (256 : Int) ≠ 0 by decide)
  have h2 := Int.emod_lt_of_pos (n / 256 ^ i) (show (0 : Int) < 256 by decide)
  generalize n / 256 ^ i % 256 = q at *
  have : (UInt8.ofNat q.toNat).toNat = q.toNat := by
    rw [UInt8.toNat_ofNat']
    omega
  rw [this]
  omega
theorem tx_mix (n : Int) (w k : Nat) (h : k < w) : (rowOf (txL n k ++ zeros (w - k))).setIfInBounds k (.int .u8 ((txB n k).toNat : Int)) = rowOf (txL n (k + 1) ++ zeros (w - (k + 1))) := by
  apply Array.ext'
  obtain ⟨m, hm⟩ : ∃ m, w - k = m + 1 := ⟨w - k - 1, by omega⟩
  have hm' : w - (k + 1) = m := by omega
  rw [Array.toList_setIfInBounds, rowOf_toList, rowOf_toList, hm, hm']
  have e1 : cellsOf (txL n k ++ zeros (m + 1)) = cellsOf (txL n k) ++ (.int .u8 0 :: cellsOf (zeros m)) := by
    rw [cellsOf_append]
    rfl
  have e2 : cellsOf (txL n (k + 1) ++ zeros m) = cellsOf (txL n k) ++ (.int .u8 ((txB n k).toNat : Int) :: cellsOf (zeros m)) := by
    rw [txL_succ, List.append_assoc, cellsOf_append]
    rfl
  have hl : (cellsOf (txL n k)).length = k := by rw [cellsOf_length, txL_length]
  rw [e1, e2, List.set_append_right _ _ (by omega), hl, Nat.sub_self]
  rfl
theorem div_fits {n : Int} (h : fitsI n) (k : Nat) : fitsI (n / 256 ^ k) := by
  have hb := fitsI_bounds h
  have hp : (0 : Int) < 256 ^ k := Int.pow_pos (by decide)
  refine fitsI_mk ?_ ?_
  · refine Int.le_ediv_of_mul_le hp ?_
    have : (1 : Int) ≤ 256 ^ k := hp
    have := Int.mul_le_mul_of_nonneg_left this (show (0 : Int) ≤ 9223372036854775808 by decide)
    omega
  · refine Int.not_lt.1 fun hgt => ?_
    have h1 := Int.ediv_mul_le n (show (256 : Int) ^ k ≠ 0 by omega)
    have h2 := Int.mul_le_mul_of_nonneg_left (show (1 : Int) ≤ 256 ^ k from hp) (show 0 ≤ n / 256 ^ k by omega)
    omega

set_option maxHeartbeats 1000000 in
theorem text_any (n : Int) (k0 : Nat) (w : World) (hn : fitsI n) (hk0 : k0 ≤ 1000) : Calls Tryz.prog 14 #[.int .i64 n, .int .i64 (k0 : Int)] w fun e w' => e = .returned (.string (strOf (txL n k0))) ∧ Keeps w w' (fun _ => False) := by
  have hmk := run_make_bytes (P := Tryz.prog) w 106 5 Tryz.underlying106 Tryz.infoE k0 (by omega)
  obtain ⟨S, hS⟩ : ∃ S, strOf (txL n k0) = S := ⟨_, rfl⟩
  rw [hS]
  go_enter Tryz.func14, Tryz.ntmps14
  go_wp2_with fail
  go_loopw [0, 6] (fun v0 i wr => ∃ k : Nat, v0 = .int .i64 (n / 256 ^ k) ∧ i = .int .i64 (k : Int) ∧ k ≤ k0 ∧ wr.heap[w.heap.size]? = some (.cells (rowOf (txL n k ++ zeros (k0 - k))) 5) ∧ Keeps w wr (fun _ => False)) (fun _ i _ => k0 - (intOf i).toNat)
  case atStart => exact ⟨0, by simp, rfl, Nat.zero_le _, heap_alloc_new _ _, (Keeps.refl _ _).alloc _⟩
  case round =>
    obtain ⟨k, rfl, rfl, hk, hr, K⟩ := hrel
    clear hmk
    have hfk := fitsI_bounds (div_fits hn k)
    by_cases hlt : k < k0
    · have hlt' : (k : Int) < (k0 : Int) := by omega
      have hb := txB_nat n k
      have hq : (n / 256 ^ k) / 256 = n / 256 ^ (k + 1) := by
        rw [Int.pow_succ, Int.ediv_ediv_of_nonneg (Int.le_of_lt (Int.pow_pos (by decide)))]
      have hc : wr.cell? ⟨w.heap.size, k, none⟩ = some (.int .u8 ((((txL n k ++ zeros (k0 - k))[k]'(by simp [txL_length, zeros_length]; omega)).toNat : Int))) := by
        have := rowOf_get (txL n k ++ zeros (k0 - k)) k (by simp [txL_length, zeros_length]; omega)
        simp only [World.cell?, hr]
        simpa using this
      have hf : wr.frozen? ⟨w.heap.size, k, none⟩ = false := by simp [World.frozen?, hr]
      have hr2 : (wr.setCell ⟨w.heap.size, k, none⟩ (.int .u8 ((txB n k).toNat : Int))).heap[w.heap.size]? = some (.cells (rowOf (txL n (k + 1) ++ zeros (k0 - (k + 1)))) 5) := by
        rw [setCell_eq_setRow wr w.heap.size k _ 5 (0, 0) _ hr, heap_setRow_same hr, tx_mix n k0 k hlt]
      have K2 : Keeps w (wr.setCell ⟨w.heap.size, k, none⟩ (.int .u8 ((txB n k).toNat : Int))) (fun _ => False) := K.setCell ⟨w.heap.size, k, none⟩ (fun h => absurd h (Nat.lt_irrefl _)) _
      generalize ((txL n k ++ zeros (k0 - k))[k]'(by simp [txL_length, zeros_length]; omega)).toNat = old at *
      rw [hb] at hr2 K2
      have HR := hide hr2
      have HK := hide K2
      have HQ := hide hq
      generalize n / 256 ^ k = x at *
      have hwx : IntKind.u8.wrap x = x % 256 := IntKind.wrap_u8 x
      clear hr K hr2 K2 hq hb
      go_wp2_with fail
      go_roundw
      case rel => exact ⟨k + 1, by rw [← HQ.out], by go_num, by omega, HR.out, HK.out⟩
      case measure => simp [intOf]; omega
    · have hkn : k = k0 := by omega
      subst hkn
      have hlt' : ¬ (k : Int) < (k : Int) := by omega
      have htx := run_text wr ⟨w.heap.size, 0, none⟩ k k (txL n k) (txL_length n k) (fun j hj => by
        rw [addr_add, Nat.zero_add]
        have := rowOf_get (txL n k ++ zeros (k - k)) j (by simp; omega)
        simp only [World.cell?, hr]
        simpa [List.getElem_append_left hj] using this)
      rw [hS] at htx
      have K2 := hide K
      clear hr K hS
      go_wp2_with fail
      go_ret
      exact ⟨rfl, K2.out⟩
end Go.Proofs.YtmdnknbolgedgaaGreatDoor
/-
  Keys of one hash, put one by one: as data.
-/
namespace Go.Proofs.YtmdnknbolgedgaaGreatDoor
open Go.RowKit Go.Shelf Ly Ct
set_option linter.unusedVariables false

theorem tx_inj {a b w : Nat} (ha : a < 65536) (hb : b < 65536) (hw : 2 ≤ w) (h : strOf (txL (a : Int) w) = strOf (txL (b : Int) w)) : a = b := by
  have h1 : txL (a : Int) w = txL (b : Int) w := by simpa [strOf] using h
  have g : ∀ i, i < w → txB (a : Int) i = txB (b : Int) i := fun i hi => by
    have := congrArg (fun x => x[i]?) h1
    simpa [txL, hi] using this
  have e0 := txB_nat (a : Int) 0
  have e1 := txB_nat (a : Int) 1
  rw [g 0 (by omega), txB_nat] at e0
  rw [g 1 (by omega), txB_nat] at e1
  simp only [Int.pow_zero, Int.ediv_one] at e0
  rw [show (256 : Int) ^ 1 = 256 from rfl] at e1
  omega
theorem tx_size (n : Int) (w : Nat) : (strOf (txL n w)).size = w := by simp [strOf, ByteArray.size, txL]

/-- The first k of the keys tx lie on the way m, eight in each group. -/
def PileAt (c : Nat → GC) (m : Nat → Nat) (G : Nat) (tag : Int) (tx ex : Nat → ByteArray) (k : Nat) : Prop :=
  ∀ i, i < G → ∀ j, j < 8 → c (8 * m i + j) = if 8 * i + j < k then GC.full tag (tx (8 * i + j)) (ex (8 * i + j)) ((8 * i + j : Nat) : Int) else GC.zero
section
variable {c : Nat → GC} {m : Nat → Nat} {G : Nat} {tag : Int} {tx ex : Nat → ByteArray} {k : Nat}
theorem pile_new : PileAt (fun _ => GC.zero) m G tag tx ex 0 := fun i _ j _ => by rw [if_neg (by omega)]
theorem pile_step (h : PileAt c m G tag tx ex k) (hk : k < 8 * G) (hm : ∀ i j, i < G → j < G → m i = m j → i = j) : PileAt (updN c (8 * m (k / 8) + k % 8) (GC.full tag (tx k) (ex k) (k : Int))) m G tag tx ex (k + 1) := fun i hi j hj => by
  unfold updN
  by_cases e : 8 * i + j = k
  · have h1 : i = k / 8 := by omega
    have h2 : j = k % 8 := by omega
    rw [if_pos (by rw [h1, h2]), if_pos (by omega), e]
  · rw [if_neg (fun q => e (by
      have h1 : m i = m (k / 8) := by omega
      have h2 := hm i (k / 8) hi (by omega) h1
      rw [h2] at q
      omega)), h i hi j hj]
    by_cases e2 : 8 * i + j < k
    · rw [if_pos e2, if_pos (by omega)]
    · rw [if_neg e2, if_neg (by omega)]
theorem pile_mt (h : PileAt c m G tag tx ex k) {B q : Nat} (hB : ∀ a b, a < B → b < B → tx a = tx b → a = b) (hk : k ≤ B) (hq : q < B) {i : Nat} (hi : i < G) {j : Nat} (hj : j < 8) : mtC (grpC c (m i)) tag (tx q) j = decide (8 * i + j = q ∧ q < k) := by
  unfold mtC grpC
  rw [h i hi j hj]
  by_cases e : 8 * i + j < k
  · rw [if_pos e]
    refine decide_eq_decide.2 ⟨fun z => ?_, fun z => ⟨rfl, rfl, by show tx (8 * i + j) = tx q; rw [z.1]⟩⟩
    have := hB _ _ (by omega) hq z.2.2
    omega
  · rw [if_neg e]
    exact decide_eq_decide.2 ⟨fun z => absurd z.1 (by decide), fun z => absurd z (by omega)⟩
theorem pile_none (h : PileAt c m G tag tx ex k) {B q : Nat} (hB : ∀ a b, a < B → b < B → tx a = tx b → a = b) (hk : k ≤ B) (hq : q < B) {i : Nat} (hi : i < G) (hn : k ≤ q ∨ i ≠ q / 8) : ¬ hitG c tag (tx q) (m i) < 8 := by
  have : hitG c tag (tx q) (m i) = 8 := low_none fun z hz => by
    rw [pile_mt h hB hk hq hi hz]
    exact decide_eq_false (by omega)
  omega
theorem pile_hit (h : PileAt c m G tag tx ex k) {B q : Nat} (hB : ∀ a b, a < B → b < B → tx a = tx b → a = b) (hk : k ≤ B) (hq : q < B) (hi : q / 8 < G) (hn : q < k) : hitG c tag (tx q) (m (q / 8)) = q % 8 := by
  refine low_is (by omega) ?_ (fun z hz => ?_)
  · rw [pile_mt h hB hk hq hi (by omega)]
    exact decide_eq_true (by omega)
  · rw [pile_mt h hB hk hq hi (by omega)]
    exact decide_eq_false (by omega)
theorem pile_kind (h : PileAt c m G tag tx ex k) {i : Nat} (hi : i < G) {j : Nat} (hj : j < 8) : (grpC c (m i) j).kind = if 8 * i + j < k then 2 else 0 := by
  unfold grpC
  rw [h i hi j hj]
  by_cases e : 8 * i + j < k
  · rw [if_pos e, if_pos e]; rfl
  · rw [if_neg e, if_neg e]; rfl
theorem pile_emp (h : PileAt c m G tag tx ex k) {i : Nat} (hi : i < G) : empG c (m i) = decide (k < 8 * i + 8) := by
  unfold empG
  by_cases e : k < 8 * i + 8
  · rw [decide_eq_true e, List.any_eq_true]
    refine ⟨7, by simp, decide_eq_true ?_⟩
    rw [pile_kind h hi (by omega), if_neg (by omega)]
  · rw [decide_eq_false e, List.any_eq_false]
    intro j hj
    have hj8 : j < 8 := by simpa using hj
    rw [pile_kind h hi hj8, if_pos (by omega)]
    decide
theorem pile_full (h : PileAt c m G tag tx ex k) {i : Nat} (hi : i < G) (he : 8 * i + 8 ≤ k) : vacG c (m i) = 8 := low_none fun z hz => by
  refine decide_eq_false fun q => q ?_
  rw [pile_kind h hi hz, if_pos (by omega)]
theorem pile_vac (h : PileAt c m G tag tx ex k) (hi : k / 8 < G) : vacG c (m (k / 8)) = k % 8 := by
  refine low_is (by omega) (decide_eq_true ?_) (fun z hz => decide_eq_false fun q => q ?_)
  · rw [pile_kind h hi (by omega), if_neg (by omega)]
    decide
  · rw [pile_kind h hi (by omega), if_pos (by omega)]
theorem pile_vacS (h : PileAt c m G tag tx ex k) : ∀ s, s ≤ G → 8 * s ≤ k → vacS c m s = none
  | 0, _, _ => rfl
  | s + 1, h1, h2 => by
    unfold vacS
    rw [pile_vacS h s (by omega) (by omega)]
    simp only [meetV]
    rw [pile_full h (by omega) (by omega), if_neg (by omega)]
theorem pile_goes (h : PileAt c m G tag tx ex k) {B q : Nat} (hB : ∀ a b, a < B → b < B → tx a = tx b → a = b) (hk : k ≤ B) (hq : q < B) {s : Nat} (hs : s ≤ G) (h8 : 8 * s ≤ k) (hn : k ≤ q ∨ s ≤ q / 8) : goes c tag (tx q) m s := fun i hi =>
  ⟨pile_none h hB hk hq (by omega) (by omega), by rw [pile_emp h (by omega)]; exact decide_eq_false (by omega)⟩
/-- A key that is there is found in its slot. -/
theorem pile_there (h : PileAt c m G tag tx ex k) {B q : Nat} (hB : ∀ a b, a < B → b < B → tx a = tx b → a = b) (hk : k ≤ B) (hk8 : k ≤ 8 * G) (hn : q < k) : ∃ v, srchT c tag (tx q) m G = ⟨q / 8 + 1, some (8 * m (q / 8) + q % 8), v⟩ := by
  have hq : q < B := by omega
  have hh := pile_hit h hB hk hq (by omega) hn
  have := srch_hit (G := G) (pile_goes h hB hk hq (s := q / 8) (by omega) (by omega) (Or.inr (Nat.le_refl _))) (by omega) (by rw [hh]; omega)
  rw [hh] at this
  exact ⟨_, this⟩
/-- One that is not there is not found; the first vacant slot is the next one. -/
theorem pile_absent (h : PileAt c m G tag tx ex k) {B q : Nat} (hB : ∀ a b, a < B → b < B → tx a = tx b → a = b) (hk : k ≤ B) (hq : q < B) (hk8 : k < 8 * G) (hn : k ≤ q) : srchT c tag (tx q) m G = ⟨k / 8 + 1, none, some (8 * m (k / 8) + k % 8)⟩ ∧ (c (8 * m (k / 8) + k % 8)).kind = 0 := by
  have hi : k / 8 < G := by omega
  have := srch_emp (G := G) (pile_goes h hB hk hq (s := k / 8) (by omega) (by omega) (Or.inl hn)) hi (pile_none h hB hk hq hi (Or.inl hn)) (by rw [pile_emp h hi]; exact decide_eq_true (by omega))
  have hv : vacS c m (k / 8 + 1) = some (8 * m (k / 8) + k % 8) := by
    unfold vacS
    rw [pile_vacS h (k / 8) (by omega) (by omega)]
    simp only [meetV]
    rw [pile_vac h hi, if_pos (by omega)]
  rw [hv] at this
  refine ⟨this, ?_⟩
  have := pile_kind h hi (j := k % 8) (by omega)
  unfold grpC at this
  rw [this, if_neg (by omega)]
end
end Go.Proofs.YtmdnknbolgedgaaGreatDoor
/-
  A pile of keys of one hash in a table, beside the statement's variables.
-/
namespace Go.Proofs.YtmdnknbolgedgaaGreatDoor
open Go.RowKit Go.Shelf Ly Ct
set_option linter.unusedVariables false

theorem num8_any (x : Int) (w : World) : Calls Tryz.prog 11 #[.int .i64 x] w fun e w' => e = .returned (.int .i64 x) ∧ w' = w := by
  go_enter Tryz.func11, Tryz.ntmps11
  go_wp2
  go_ret
  exact ⟨rfl, rfl⟩
def txK (l : Lay) (q : Nat) : ByteArray := strOf (txL (q : Int) l.k.toNat)
def txE (l : Lay) (q : Nat) : ByteArray := strOf (txL (q : Int) l.e.toNat)
theorem txK_inj {l : Lay} (h2 : 2 ≤ l.k) : ∀ a b, a < 65536 → b < 65536 → txK l a = txK l b → a = b := fun a b ha hb h => tx_inj ha hb (by omega) h

/-- The pile beside the variables p, l, t of the statement. -/
structure PS (w wr : World) (p B1 B3 B7 : Nat) (sl : Value) (S N : Int) (H : Nat) (l : Lay) (G k : Nat) : Prop where
  b1 : wr.heap[B1]? = some (.cells #[sl, .int .i64 S, .int .i64 N, .int .u64 (H : Int)] 25)
  b3 : wr.heap[B3]? = some (.cells #[.int .i64 l.k, .int .i64 l.e, .int .i64 l.a, .int .i64 l.b, .int .i64 l.c, .int .i64 l.eo, .int .i64 l.bo, .int .i64 l.s, .int .i64 l.g] 27)
  b7 : wr.heap[B7]? = some (.cells #[.pointer (some ⟨p, 0, none⟩), .int .i64 l.k, .int .i64 l.e, .int .i64 l.a, .int .i64 l.b, .int .i64 l.c, .int .i64 l.eo, .int .i64 l.bo, .int .i64 l.s, .int .i64 l.g, .int .i64 (16 : Int)] 36)
  dat : ∃ d f c, Own w wr p (fun q => q = B1 ∨ q = B3 ∨ q = B7) d ∧ d.Fine ∧ d.small ∧ TabD d l 16 80 G f c ∧ f 3 = (k : Int) ∧ f 4 = ((8 * G : Nat) : Int) ∧ f 5 = 7 * (G : Int) - (k : Int) ∧ f 7 = ((80 : Nat) : Int) ∧ PileAt c (Pb.metN (H / 128) G) G ((H : Int) % 128) (txK l) (txE l) k
section
variable {w wr wr' : World} {p B1 B3 B7 : Nat} {sl : Value} {S N : Int} {H : Nat} {l : Lay} {G k : Nat}
theorem PS.stay (h : PS w wr p B1 B3 B7 sl S N H l G k) (q : Keeps wr wr' (fun _ => False)) : PS w wr' p B1 B3 B7 sl S N H l G k := by
  obtain ⟨d, f, c, h1, h2⟩ := h.dat
  exact ⟨q.blk h.b1, q.blk h.b3, q.blk h.b7, d, f, c, ⟨h1.arena.keeps q (fun _ _ _ e => e), h1.keeps.trans q (fun _ _ e => e)⟩, h2⟩
theorem PS.keep (h : PS w wr p B1 B3 B7 sl S N H l G k) : Keeps w wr (fun _ => False) := by
  obtain ⟨d, f, c, h1, h2⟩ := h.dat
  exact h1.keeps
theorem ps_probes (h : PS w wr p B1 B3 B7 sl S N H l G k) (hT : TabAt w) {j : Nat} (hj : j ≤ 5) (hG : G = 2 ^ j) (hH : H < 18446744073709551616) (h2 : 2 ≤ l.k) (hk : k ≤ 7 * G) {q : Nat} (hq : q < 65536) :
    Calls Tryz.prog 13 #[.agg #[.pointer (some ⟨p, 0, none⟩), .int .i64 l.k, .int .i64 l.e, .int .i64 l.a, .int .i64 l.b, .int .i64 l.c, .int .i64 l.eo, .int .i64 l.bo, .int .i64 l.s, .int .i64 l.g, .int .i64 (16 : Int)], .int .u64 (H : Int), .string (txK l q)] wr fun e w' => e = .returned (.tuple #[.int .i64 (((if q < k then q / 8 + 1 else k / 8 + 1 : Nat)) : Int), .int .i64 0]) ∧ Keeps wr w' (fun _ => False) := by
  obtain ⟨d, f, c, hO, hF, hSm, hD, f3, f4, f5, f7, hP⟩ := h.dat
  have hvm := valid_more hD.valid
  have hks : ((txK l q).size : Int) = l.k := by unfold txK; rw [tx_size]; omega
  have hG0 := hD.pos
  have hG32 : G ≤ 32 := by rw [hG]; exact Nat.pow_le_pow_right (by decide) hj
  have := tprobes_yes hO.here hF hD f4 f7 j (by omega) hG (hT.kp (hO.keeps.below (Nat.le_refl _) (fun _ _ e => e))) H hH (txK l q) hks
  refine this.mono ?_
  rintro e w' ⟨rfl, kk⟩
  refine ⟨?_, kk⟩
  by_cases hqk : q < k
  · obtain ⟨v, hv⟩ := pile_there hP (txK_inj h2) (by omega) (by omega) hqk
    rw [hv, if_pos hqk]
  · have hv := (pile_absent hP (txK_inj h2) (by omega) hq (by omega) (by omega)).1
    rw [hv, if_neg hqk]
theorem ps_find (h : PS w wr p B1 B3 B7 sl S N H l G k) (hT : TabAt w) {j : Nat} (hj : j ≤ 5) (hG : G = 2 ^ j) (hH : H < 18446744073709551616) (h2 : 2 ≤ l.k) (hk : k ≤ 7 * G) {q : Nat} (hqk : q < k) :
    Calls Tryz.prog 16 #[.agg #[.pointer (some ⟨p, 0, none⟩), .int .i64 l.k, .int .i64 l.e, .int .i64 l.a, .int .i64 l.b, .int .i64 l.c, .int .i64 l.eo, .int .i64 l.bo, .int .i64 l.s, .int .i64 l.g, .int .i64 (16 : Int)], .int .u64 (H : Int), .string (txK l q)] wr fun e w' => e = .returned (.tuple #[.int .i64 (((8 * Pb.metN (H / 128) G (q / 8) + q % 8 : Nat)) : Int), .int .i64 0]) ∧ Keeps wr w' (fun _ => False) := by
  obtain ⟨d, f, c, hO, hF, hSm, hD, f3, f4, f5, f7, hP⟩ := h.dat
  have hvm := valid_more hD.valid
  have hks : ((txK l q).size : Int) = l.k := by unfold txK; rw [tx_size]; omega
  have hG32 : G ≤ 32 := by rw [hG]; exact Nat.pow_le_pow_right (by decide) hj
  have := tfind_yes hO.here hF hD f4 f7 j (by omega) hG (hT.kp (hO.keeps.below (Nat.le_refl _) (fun _ _ e => e))) H hH (txK l q) hks
  refine this.mono ?_
  rintro e w' ⟨rfl, kk⟩
  obtain ⟨v, hv⟩ := pile_there hP (txK_inj h2) (by omega) (by omega) hqk
  rw [hv]
  exact ⟨rfl, kk⟩
theorem ps_put_full (h : PS w wr p B1 B3 B7 sl S N H l G k) (hT : TabAt w) {j : Nat} (hj : j ≤ 5) (hG : G = 2 ^ j) (hH : H < 18446744073709551616) (h2 : 2 ≤ l.k) (hk : k = 7 * G) {q : Nat} (hq : q < 65536) (hqk : k ≤ q) :
    Calls Tryz.prog 15 #[.agg #[.pointer (some ⟨p, 0, none⟩), .int .i64 l.k, .int .i64 l.e, .int .i64 l.a, .int .i64 l.b, .int .i64 l.c, .int .i64 l.eo, .int .i64 l.bo, .int .i64 l.s, .int .i64 l.g, .int .i64 (16 : Int)], .int .u64 (H : Int), .string (txK l q), .string (txE l q), .int .i64 (q : Int)] wr fun e w' => e = .returned (.tuple #[.int .i64 3, .int .i64 0]) ∧ PS w w' p B1 B3 B7 sl S N H l G k := by
  obtain ⟨d, f, c, hO, hF, hSm, hD, f3, f4, f5, f7, hP⟩ := h.dat
  have hvm := valid_more hD.valid
  have hks : ((txK l q).size : Int) = l.k := by unfold txK; rw [tx_size]; omega
  have hes : ((txE l q).size : Int) = l.e := by unfold txE; rw [tx_size]; omega
  have hG0 := hD.pos
  have hG32 : G ≤ 32 := by rw [hG]; exact Nat.pow_le_pow_right (by decide) hj
  obtain ⟨hv, hz⟩ := pile_absent hP (txK_inj h2) (by omega) hq (by omega) hqk
  have := tput_full hO.here hF hD f4 f7 j (by omega) hG (hT.kp (hO.keeps.below (Nat.le_refl _) (fun _ _ e => e))) H hH (txK l q) hks (txE l q) hes (q : Int) (by omega) (by rw [hv]) _ (by rw [hv]) hz (by rw [f5]; omega)
  refine this.mono ?_
  rintro e w' ⟨rfl, kk⟩
  exact ⟨rfl, h.stay kk⟩
theorem ps_put_new (h : PS w wr p B1 B3 B7 sl S N H l G k) (hT : TabAt w) {j : Nat} (hj : j ≤ 5) (hG : G = 2 ^ j) (hH : H < 18446744073709551616) (h2 : 2 ≤ l.k) (hk : k < 7 * G) (hB : B1 < wr.heap.size ∧ B3 < wr.heap.size ∧ B7 < wr.heap.size) :
    Calls Tryz.prog 15 #[.agg #[.pointer (some ⟨p, 0, none⟩), .int .i64 l.k, .int .i64 l.e, .int .i64 l.a, .int .i64 l.b, .int .i64 l.c, .int .i64 l.eo, .int .i64 l.bo, .int .i64 l.s, .int .i64 l.g, .int .i64 (16 : Int)], .int .u64 (H : Int), .string (txK l k), .string (txE l k), .int .i64 (k : Int)] wr fun e w' => e = .returned (.tuple #[.int .i64 2, .int .i64 0]) ∧ PS w w' p B1 B3 B7 sl S N H l G (k + 1) := by
  obtain ⟨d, f, c, hO, hF, hSm, hD, f3, f4, f5, f7, hP⟩ := h.dat
  have hvm := valid_more hD.valid
  have hks : ((txK l k).size : Int) = l.k := by unfold txK; rw [tx_size]; omega
  have hes : ((txE l k).size : Int) = l.e := by unfold txE; rw [tx_size]; omega
  have hG0 := hD.pos
  have hG32 : G ≤ 32 := by rw [hG]; exact Nat.pow_le_pow_right (by decide) hj
  obtain ⟨hv, hz⟩ := pile_absent hP (txK_inj h2) (B := 65536) (q := k) (by omega) (by omega) (by omega) (Nat.le_refl _)
  have := tput_new hO.here hF hSm (fun _ q => q.2) hD f4 f7 j (by omega) hG (hT.kp (hO.keeps.below (Nat.le_refl _) (fun _ _ e => e))) H hH (txK l k) hks (txE l k) hes (k : Int) (by omega) (by rw [hv]) _ (by rw [hv]) true (decide_eq_true hz) (fun _ => by rw [f5]; omega) (by rw [f5]; omega) (by rw [f5]; omega) (by rw [f3]; omega) (by rw [f3]; omega) (by omega)
  refine this.mono ?_
  rintro e w' ⟨rfl, d', hTu, hAl, hD'⟩
  refine ⟨rfl, ?_⟩
  have hnX : ∀ q, (q = B1 ∨ q = B3 ∨ q = B7) → ¬ ((w.heap.size ≤ q ∧ ¬ (q = B1 ∨ q = B3 ∨ q = B7)) ∧ q < wr.heap.size) := fun q hq e => e.1.2 hq
  have hm : ∀ a b, a < G → b < G → Pb.metN (H / 128) G a = Pb.metN (H / 128) G b → a = b := fun a b ha hb e => by
    rw [hG] at ha hb e
    rcases Nat.lt_trichotomy a b with q | q | q
    · exact absurd e (Pb.metN_lt_ne q hb)
    · exact q
    · exact absurd e.symm (Pb.metN_lt_ne q ha)
  refine ⟨hTu.2.blkS h.b1 (hnX _ (Or.inl rfl)), hTu.2.blkS h.b3 (hnX _ (Or.inr (Or.inl rfl))), hTu.2.blkS h.b7 (hnX _ (Or.inr (Or.inr rfl))), d', _, _, hO.turn hTu (fun q hq => by rcases hq with e | e | e <;> omega), hAl.fine hF, hAl.small hSm, hD', ?_, ?_, ?_, ?_, pile_step hP (by omega) hm⟩
  · show updI (updI f 5 (f 5 - 1)) 3 (f 3 + 1) 3 = _
    unfold updI
    rw [if_pos rfl, f3]
    omega
  · show updI (updI f 5 (f 5 - 1)) 3 (f 3 + 1) 4 = _
    unfold updI
    rw [if_neg (by omega), if_neg (by omega), f4]
  · show updI (updI f 5 (f 5 - 1)) 3 (f 3 + 1) 5 = _
    unfold updI
    rw [if_neg (by omega), if_pos rfl, f5]
    omega
  · show updI (updI f 5 (f 5 - 1)) 3 (f 3 + 1) 7 = _
    unfold updI
    rw [if_neg (by omega), if_neg (by omega), f7]
end
end Go.Proofs.YtmdnknbolgedgaaGreatDoor
/-
  Numbers that the statement on piles makes.
-/
namespace Go.Proofs.YtmdnknbolgedgaaGreatDoor
namespace tablePiles
open Go.RowKit Go.Shelf
set_option linter.unusedVariables false

theorem wr_small {x : Int} (h0 : 0 ≤ x) (h1 : x ≤ 1000000) : wrap64 x = x ∧ IntKind.i64.wrap x = x := by
  constructor
  · unfold wrap64; omega
  · rw [IntKind.wrap_i64]; omega
theorem wr8 {k : Nat} (h : k ≤ 65536) : (wrap64 ((k / 8 : Nat) : Int) = ((k / 8 : Nat) : Int) ∧ IntKind.i64.wrap ((k / 8 : Nat) : Int) = ((k / 8 : Nat) : Int)) ∧ wrap64 (((k / 8 : Nat) : Int) + 1) = ((k / 8 : Nat) : Int) + 1 ∧ IntKind.i64.wrap (((k / 8 : Nat) : Int) + 1) = ((k / 8 : Nat) : Int) + 1 := ⟨wr_small (by omega) (by omega), wr_small (by omega) (by omega)⟩
theorem wrM {M q : Nat} (h : M ≤ 32) : (wrap64 ((q % 8 : Nat) : Int) = ((q % 8 : Nat) : Int) ∧ IntKind.i64.wrap ((q % 8 : Nat) : Int) = ((q % 8 : Nat) : Int)) ∧ (wrap64 (8 * (M : Int)) = 8 * (M : Int) ∧ IntKind.i64.wrap (8 * (M : Int)) = 8 * (M : Int)) ∧ wrap64 (8 * (M : Int) + ((q % 8 : Nat) : Int)) = 8 * (M : Int) + ((q % 8 : Nat) : Int) ∧ IntKind.i64.wrap (8 * (M : Int) + ((q % 8 : Nat) : Int)) = 8 * (M : Int) + ((q % 8 : Nat) : Int) := ⟨wr_small (by omega) (by omega), wr_small (by omega) (by omega), wr_small (by omega) (by omega)⟩
theorem div8 (k : Nat) : ((k : Int)).tdiv 8 = ((k / 8 : Nat) : Int) := by rw [Int.tdiv_eq_ediv_of_nonneg (by omega)]; omega
theorem mod8 (k : Nat) : ((k : Int)).tmod 8 = ((k % 8 : Nat) : Int) := by rw [Int.tmod_eq_emod_of_nonneg (by omega)]; omega
theorem div7 (G : Nat) : ((G : Int) * 7).tdiv 8 = ((7 * G / 8 : Nat) : Int) := by rw [Int.tdiv_eq_ediv_of_nonneg (by omega)]; omega
theorem div128 (H : Nat) (hH : H < 18446744073709551616) : ((H : Int)).tdiv 128 = ((H / 128 : Nat) : Int) ∧ IntKind.u64.wrap ((H / 128 : Nat) : Int) = ((H / 128 : Nat) : Int) := by
  constructor
  · rw [Int.tdiv_eq_ediv_of_nonneg (by omega)]; omega
  · rw [IntKind.wrap_u64]; omega
theorem slotI (M k : Nat) : (((8 * M + k % 8 : Nat)) : Int) = 8 * (M : Int) + ((k % 8 : Nat) : Int) := by omega
end tablePiles
end Go.Proofs.YtmdnknbolgedgaaGreatDoor
/-
  What the given condition on the table of math/bits tells.
-/
namespace Go.Proofs.YtmdnknbolgedgaaGreatDoor
open Go.ChangeShapes Go.WideShapes Go.ChangeAt Go.WideMaps Go.WideElems Go.RowKit Ct

theorem own : ownKnob Tryz.prog.godebug = none := by kernel_rfl
theorem laidOut : laidOutB Tryz.prog = true := by kernel_rfl
theorem gTab : Tryz.prog.globalNamed "math/bits.deBruijn64tab" = some 0 := by kernel_rfl
theorem tTab : (Tryz.prog.globals[0]?).map (·.type) = some 208 := by kernel_rfl
theorem listed : (Rows.laid_math_bits_deBruijn64tab : DataW Unit) = Lib.tabData .u8 (tabL.map fun n : Nat => (n : Int)) := rfl

def laidO : List (String × DataW Unit) := [("math/bits.deBruijn64tab", Rows.laid_math_bits_deBruijn64tab)]
theorem door_met (os : Os) (args : Array Value) : laidMetH Tryz.prog laidO ((World.doorLaid Tryz.prog 400 os).forCall (fun _ _ => 0) ⟨#[], args, []⟩).memory :=
  laidMetH_of_parts3 (fuel := 8) (laidMet_of_run' 8 (by kernel_rfl) (by kernel_rfl)) (by kernel_rfl) (by kernel_rfl)

theorem of_laid {W : World} (h : laidMetH Tryz.prog laidO W) : TabAt W := by
  rw [MakeChecks.laidMetH_plain _ _ _ (by kernel_rfl)] at h
  have h2 : laidMet Tryz.prog (("math/bits.deBruijn64tab", Lib.tabData .u8 (tabL.map fun n : Nat => (n : Int))) :: []) W := h
  have t := Lib.tabIs_of_head gTab tTab Tryz.underlying208 Tryz.underlying5 (by kernel_rfl) (by kernel_rfl) h2
  intro k hk
  have e := t.cell gTab k (by rw [List.length_map]; exact hk)
  rw [e]
  congr 2
  have : (tabL.map fun n : Nat => (n : Int)).getD k 0 = ((tabL.getD k 0 : Nat) : Int) := by
    simp [List.getD]
    cases tabL[k]? <;> rfl
  exact this
end Go.Proofs.YtmdnknbolgedgaaGreatDoor
namespace Go.Proofs.YtmdnknbolgedgaaGreatDoor.Ly
open Go.RowKit

theorem up_step {x a n : Int} (ha : a = 1 ∨ a = 2 ∨ a = 4 ∨ a = 8) (hn : n % a = 0) (h1 : x ≤ n) (h2 : n < x + a) : n = up x a := by
  unfold up
  rcases ha with rfl | rfl | rfl | rfl <;> omega

set_option maxHeartbeats 1000000 in
theorem ref_raised (x a : Int) (w : World) (h0 : 0 ≤ x) (h1 : x ≤ 300) (ha : a = 1 ∨ a = 2 ∨ a = 4 ∨ a = 8) :
    Calls Tryz.prog 34 #[.int .i64 x, .int .i64 a] w fun e w' => e = .returned (.int .i64 (up x a)) ∧ w' = w := by
  have a1 : 1 ≤ a := by omega
  have a8 : a ≤ 8 := by omega
  have hU : Hid (∀ n : Int, n % a = 0 → x ≤ n → n < x + a → n = up x a) := fun n e1 e2 e3 => up_step ha e1 e2 e3
  have hM : Hid (∀ n : Int, n % a = 0 → (n + a) % a = 0) := fun n e => by rw [Int.add_emod_right]; exact e
  generalize up x a = U at *
  clear ha
  go_enter Tryz.func34, Tryz.ntmps34
  go_wp2_with fail
  go_loop [5] (fun v => ∃ n : Int, v = .int .i64 n ∧ Hid (n % a = 0) ∧ 0 ≤ n ∧ n < x + a) (fun v => (x - intOf v).toNat)
  case atStart => exact ⟨0, rfl, Int.zero_emod a, by omega, by omega⟩
  case round =>
    obtain ⟨n, rfl, hn, n0, n1⟩ := hrel
    by_cases hlt : n < x
    · go_wp2_with fail
      go_round
      case rel => exact ⟨n + a, rfl, hM.out n hn.out, by omega, by omega⟩
      case measure => simp [intOf]; omega
    · have e := hU.out n hn.out (by omega) n1
      subst e
      go_wp2_with fail
      go_ret
      exact ⟨rfl, rfl⟩

set_option maxHeartbeats 1000000 in
theorem ref_power8 (x : Int) (w : World) :
    Calls Tryz.prog 33 #[.int .i64 x, .int .i64 1, .int .i64 8] w fun e w' => e = .returned (.bool (pw x 1 8)) ∧ w' = w := by
  have hT : Hid (pw x 1 8 = true ↔ x = 1 ∨ x = 2 ∨ x = 4 ∨ x = 8) := pw8
  generalize pw x 1 8 = V at *
  go_enter Tryz.func33, Tryz.ntmps33
  go_wp2_with fail
  go_loop [7] (fun v => ∃ p : Int, v = .int .i64 p ∧ 1 ≤ p ∧ p ≤ 16 ∧ Hid ((p = 1 ∨ p = 2 ∨ p = 4 ∨ p = 8 ∨ p = 16) ∧ (1 < p → x ≠ 1) ∧ (2 < p → x ≠ 2) ∧ (4 < p → x ≠ 4) ∧ (8 < p → x ≠ 8))) (fun v => (100 - intOf v).toNat)
  case atStart => exact ⟨1, rfl, by omega, by omega, by omega, by omega, by omega, by omega, by omega⟩
  case round =>
    obtain ⟨p, rfl, p1, p2, hp⟩ := hrel
    by_cases hle : p ≤ 8
    · by_cases he : p = x
      · have hV : V = true := hT.out.2 (by have := hp.out; omega)
        subst hV
        subst he
        go_wp2_with fail
        go_ret
        exact ⟨rfl, rfl⟩
      · have he' : (p == x) = false := by simpa using he
        go_wp2_with fail
        go_round
        case rel => exact ⟨2 * p, rfl, by omega, by omega, by have := hp.out; omega, by have := hp.out; omega, by have := hp.out; omega, by have := hp.out; omega, by have := hp.out; omega⟩
        case measure => simp [intOf]; omega
    · have hV : V = false := by
        cases hv : V
        · rfl
        · have := hT.out.1 hv
          have := hp.out
          omega
      subst hV
      go_wp2_with fail
      go_ret
      exact ⟨rfl, rfl⟩

set_option maxHeartbeats 1000000 in
theorem ref_powerCap (x : Int) (w : World) :
    Calls Tryz.prog 33 #[.int .i64 x, .int .i64 16, .int .i64 1024] w fun e w' => e = .returned (.bool (pw x 16 1024)) ∧ w' = w := by
  have hT : Hid (pw x 16 1024 = true ↔ x = 16 ∨ x = 32 ∨ x = 64 ∨ x = 128 ∨ x = 256 ∨ x = 512 ∨ x = 1024) := pwCap
  generalize pw x 16 1024 = V at *
  go_enter Tryz.func33, Tryz.ntmps33
  go_wp2_with fail
  go_loop [7] (fun v => ∃ p : Int, v = .int .i64 p ∧ 16 ≤ p ∧ p ≤ 2048 ∧ Hid ((p = 16 ∨ p = 32 ∨ p = 64 ∨ p = 128 ∨ p = 256 ∨ p = 512 ∨ p = 1024 ∨ p = 2048) ∧ (16 < p → x ≠ 16) ∧ (32 < p → x ≠ 32) ∧ (64 < p → x ≠ 64) ∧ (128 < p → x ≠ 128) ∧ (256 < p → x ≠ 256) ∧ (512 < p → x ≠ 512) ∧ (1024 < p → x ≠ 1024))) (fun v => (10000 - intOf v).toNat)
  case atStart => exact ⟨16, rfl, by omega, by omega, by omega, by omega, by omega, by omega, by omega, by omega, by omega, by omega⟩
  case round =>
    obtain ⟨p, rfl, p1, p2, hp⟩ := hrel
    by_cases hle : p ≤ 1024
    · by_cases he : p = x
      · have hV : V = true := hT.out.2 (by have := hp.out; omega)
        subst hV
        subst he
        go_wp2_with fail
        go_ret
        exact ⟨rfl, rfl⟩
      · have he' : (p == x) = false := by simpa using he
        go_wp2_with fail
        go_round
        case rel => exact ⟨2 * p, rfl, by omega, by omega, by have := hp.out; omega, by have := hp.out; omega, by have := hp.out; omega, by have := hp.out; omega, by have := hp.out; omega, by have := hp.out; omega, by have := hp.out; omega, by have := hp.out; omega⟩
        case measure => simp [intOf]; omega
    · have hV : V = false := by
        cases hv : V
        · rfl
        · have := hT.out.1 hv
          have := hp.out
          omega
      subst hV
      go_wp2_with fail
      go_ret
      exact ⟨rfl, rfl⟩

theorem ref_fits (x a : Int) (w : World) (h0 : 0 ≤ x) (h1 : x ≤ 128) :
    Calls Tryz.prog 32 #[.int .i64 x, .int .i64 a] w fun e w' => e = .returned (.bool (al x a)) ∧ w' = w := by
  have hp := ref_power8 a w
  cases hq : pw a 1 8
  · have e : al x a = false := by unfold al; rw [hq]; rfl
    rw [hq] at hp
    rw [e]
    go_enter Tryz.func32, Tryz.ntmps32
    go_wp2_with fail
    refine hp.mono ?_
    rintro e w' ⟨rfl, rfl⟩
    clear hp
    go_wp2_with fail
    go_ret
    exact ⟨rfl, rfl⟩
  · have ha := pw8.1 hq
    have hr := ref_raised x a w h0 (by omega) ha
    have e : al x a = (up x a == x) := by
      unfold al
      rw [hq, Bool.true_and, Bool.eq_iff_iff, decide_eq_true_iff, beq_iff_eq]
      unfold up
      rcases ha with rfl | rfl | rfl | rfl <;> omega
    rw [hq] at hp
    rw [e]
    go_enter Tryz.func32, Tryz.ntmps32
    go_wp2_with fail
    refine hp.mono ?_
    rintro e w' ⟨rfl, rfl⟩
    clear hp
    go_wp2_with fail
    refine hr.mono ?_
    rintro e w' ⟨rfl, rfl⟩
    clear hr
    go_wp2_with fail
    go_ret
    exact ⟨rfl, rfl⟩
end Go.Proofs.YtmdnknbolgedgaaGreatDoor.Ly
