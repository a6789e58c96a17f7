import Derived.RangeFuncBox
import Derived.RangeFuncLeaves
import Derived.RangeFuncWrites
import Derived.RangeFuncNested
import Derived.Shelf.Abstract
import Derived.OwnWalkIn
import Derived.TacticsInMore
import Derived.LoopNIn
import Derived.LoopIn
import Derived.Sort.LoopGhostIn
import Derived.Test.YtmdnknbolgedgaaGreatDoorChecked
import Derived.WalkKit
import Derived.Below
import Derived.ProofKit
import Derived.IntWalk
import Derived.Laws.Bits64
import Derived.Laws.BitsAll
import Derived.Deep.QuietTactic
import Derived.BigQuiet
import Derived.Test.YtmdnknbolgedgaaGreatDoorUn13
/-
  New.
-/
namespace Go.Proofs.YtmdnknbolgedgaaGreatDoor
open Go.RowKit Go.Shelf Ly Ct
set_option linter.unusedVariables false

theorem nine_cells {w : World} {b : Nat} {v0 v1 v2 v3 v4 v5 v6 v7 v8 : Value} {t : TypeId} (h : w.heap[b]? = some (.cells #[v0, v1, v2, v3, v4, v5, v6, v7, v8] t)) :
    w.cell? ⟨b, 0, none⟩ = some v0 ∧ w.cell? ⟨b, 1, none⟩ = some v1 ∧ w.cell? ⟨b, 2, none⟩ = some v2 ∧ w.cell? ⟨b, 3, none⟩ = some v3 ∧ w.cell? ⟨b, 4, none⟩ = some v4 ∧ w.cell? ⟨b, 5, none⟩ = some v5 ∧ w.cell? ⟨b, 6, none⟩ = some v6 ∧ w.cell? ⟨b, 7, none⟩ = some v7 ∧ w.cell? ⟨b, 8, none⟩ = some v8 := by
  simp [World.cell?, h]
/-- A layout's nine numbers in a block, and one cell more. -/
abbrev N10 (b : Nat) (l : Lay) (e : Nat) (v : Value) (W : World) : Prop := W.cell? ⟨b, 0, none⟩ = some (.int .i64 l.k) ∧ W.cell? ⟨b, 1, none⟩ = some (.int .i64 l.e) ∧ W.cell? ⟨b, 2, none⟩ = some (.int .i64 l.a) ∧ W.cell? ⟨b, 3, none⟩ = some (.int .i64 l.b) ∧ W.cell? ⟨b, 4, none⟩ = some (.int .i64 l.c) ∧ W.cell? ⟨b, 5, none⟩ = some (.int .i64 l.eo) ∧ W.cell? ⟨b, 6, none⟩ = some (.int .i64 l.bo) ∧ W.cell? ⟨b, 7, none⟩ = some (.int .i64 l.s) ∧ W.cell? ⟨b, 8, none⟩ = some (.int .i64 l.g) ∧ W.cell? ⟨e, 0, none⟩ = some v
theorem n10_keeps {W W1 : World} {b e : Nat} {l : Lay} {v : Value} {S : Nat → Prop} (k : Keeps W W1 S) (hb : ¬ S b) (he : ¬ S e) (h : N10 b l e v W) : N10 b l e v W1 := by
  obtain ⟨c0, c1, c2, c3, c4, c5, c6, c7, c8, c9⟩ := h
  have hc : ∀ q j v, ¬ S q → W.cell? ⟨q, j, none⟩ = some v → W1.cell? ⟨q, j, none⟩ = some v := fun q j v hq e => by
    have : q < W.heap.size := by
      refine Nat.lt_of_not_le fun hn => ?_
      rw [World.cell?, Array.getElem?_eq_none hn] at e
      cases e
    exact (World.cell?_of_block (w := W) (a := ⟨q, j, none⟩) (k.block q this hq)).trans e
  exact ⟨hc _ _ _ hb c0, hc _ _ _ hb c1, hc _ _ _ hb c2, hc _ _ _ hb c3, hc _ _ _ hb c4, hc _ _ _ hb c5, hc _ _ _ hb c6, hc _ _ _ hb c7, hc _ _ _ hb c8, hc _ _ _ he c9⟩
theorem n10_drew {W : World} {b e : Nat} {l : Lay} {v : Value} (h : N10 b l e v W) : N10 b l e v W.drew := n10_keeps (Keeps.refl W (fun _ => False)).drew id id h
theorem n10_alloc {W : World} {b e : Nat} {l : Lay} {v : Value} (h : N10 b l e v W) (o : Obj) : N10 b l e v (W.alloc o) := n10_keeps ((Keeps.refl W (fun _ => False)).alloc o) id id h
theorem n10_set {V : World} {b e x : Nat} {l : Lay} {v : Value} (h : N10 b l e v V) (hb : b ≠ x) (he : e ≠ x) {v0 v1 v2 v3 v4 v5 v6 v7 v8 v9 v10 : Value} : N10 b l e v (((((((((((V.setCell ⟨x, 0, none⟩ v0).setCell ⟨x, 1, none⟩ v1).setCell ⟨x, 2, none⟩ v2).setCell ⟨x, 3, none⟩ v3).setCell ⟨x, 4, none⟩ v4).setCell ⟨x, 5, none⟩ v5).setCell ⟨x, 6, none⟩ v6).setCell ⟨x, 7, none⟩ v7).setCell ⟨x, 8, none⟩ v8).setCell ⟨x, 9, none⟩ v9).setCell ⟨x, 10, none⟩ v10) := n10_keeps (S := fun i => i = x) ((((((((((((Keeps.refl V (fun i => i = x)).setCell ⟨x, 0, none⟩ (fun _ => rfl) _).setCell ⟨x, 1, none⟩ (fun _ => rfl) _).setCell ⟨x, 2, none⟩ (fun _ => rfl) _).setCell ⟨x, 3, none⟩ (fun _ => rfl) _).setCell ⟨x, 4, none⟩ (fun _ => rfl) _).setCell ⟨x, 5, none⟩ (fun _ => rfl) _).setCell ⟨x, 6, none⟩ (fun _ => rfl) _).setCell ⟨x, 7, none⟩ (fun _ => rfl) _).setCell ⟨x, 8, none⟩ (fun _ => rfl) _).setCell ⟨x, 9, none⟩ (fun _ => rfl) _).setCell ⟨x, 10, none⟩ (fun _ => rfl) _) hb he h
theorem heap_new_drew (w : World) (o : Obj) : (w.alloc o).drew.heap[w.heap.size]? = some o := heap_alloc_new w o
set_option maxHeartbeats 400000 in
theorem tbat_any (p : Nat) (l : Lay) (off : Int) (w : World) : Calls Tryz.prog 39 #[.pointer (some ⟨p, 0, none⟩), .agg #[.int .i64 l.k, .int .i64 l.e, .int .i64 l.a, .int .i64 l.b, .int .i64 l.c, .int .i64 l.eo, .int .i64 l.bo, .int .i64 l.s, .int .i64 l.g], .int .i64 off] w fun e w' => e = .returned (.agg #[.pointer (some ⟨p, 0, none⟩), .int .i64 l.k, .int .i64 l.e, .int .i64 l.a, .int .i64 l.b, .int .i64 l.c, .int .i64 l.eo, .int .i64 l.bo, .int .i64 l.s, .int .i64 l.g, .int .i64 off]) ∧ Keeps w w' (fun _ => False) := by
  go_enter Tryz.func39, Tryz.ntmps39
  go_wp2_with fail
  refine bodyPost_ret (v := .agg #[.pointer (some ⟨p, 0, none⟩), .int .i64 l.k, .int .i64 l.e, .int .i64 l.a, .int .i64 l.b, .int .i64 l.c, .int .i64 l.eo, .int .i64 l.bo, .int .i64 l.s, .int .i64 l.g, .int .i64 off]) (by simp [results, Tryz.results39, go_sem]) rfl ⟨rfl, ?_⟩
  exact ((Keeps.refl _ _).alloc _).alloc _
theorem pwL_yes : ∀ j, j < 14 → Ly.pw ((8 * 2 ^ j : Nat) : Int) 8 65536 = true := by decide
def TNewPost (d0 : AD) (w : World) (p : Nat) (F : Nat → Prop) (l : Lay) (G : Nat) (depth : Int) (off gr : Nat) (e : Ending) (w' : World) : Prop :=
  e = .returned (.tuple #[.agg #[.pointer (some ⟨p, 0, none⟩), .int .i64 l.k, .int .i64 l.e, .int .i64 l.a, .int .i64 l.b, .int .i64 l.c, .int .i64 l.eo, .int .i64 l.bo, .int .i64 l.s, .int .i64 l.g, .int .i64 (off : Int)], .int .i64 0]) ∧ ∃ d', Turned w w' p F d' ∧ d'.Fine ∧ TabD d' l off gr G (hdr0 ((8 * G : Nat) : Int) (Pb.mostN ((8 * G : Nat) : Int)) depth (gr : Int)) (fun _ => GC.zero) ∧ Alt d0 d' off gr (G * l.g.toNat)

set_option maxRecDepth 100000 in
set_option maxHeartbeats 8000000 in
theorem tnew_yes {w : World} {p : Nat} {F : Nat → Prop} {d : AD} (hA : Arena w p F d) (hF : d.Fine) (hW : newG d) (hFl : ∀ k, F k → k < w.heap.size) (l : Lay) (hv : validB l = true) (G j : Nat) (hj : j < 14) (hG : G = 2 ^ j) (depth : Int) (hd0 : 0 ≤ depth) (hd6 : depth ≤ 6) (c : Nat) (hc : classN (G * l.g.toNat) = c) (hm : G * l.g.toNat ≤ 1048576) (hu : d.used + 64 + c ≤ d.limit) :
    Calls Tryz.prog 12 #[.pointer (some ⟨p, 0, none⟩), .agg #[.int .i64 l.k, .int .i64 l.e, .int .i64 l.a, .int .i64 l.b, .int .i64 l.c, .int .i64 l.eo, .int .i64 l.bo, .int .i64 l.s, .int .i64 l.g], .int .i64 ((8 * G : Nat) : Int), .int .i64 depth] w fun e w' => TNewPost ((d.took 64).took c) w p F l G depth d.bs.length (d.bs.length + 64) e w' := by
  have hM : ∀ W, Calls Tryz.prog 36 #[.int .i64 ((8 * G : Nat) : Int)] W fun e w' => e = .returned (.int .i64 (((7 * G : Nat) : Int))) ∧ w' = W := fun W => by
    have e := Pb.most_any ((8 * G : Nat) : Int) W
    have e2 : Pb.mostN ((8 * G : Nat) : Int) = ((7 * G : Nat) : Int) := by
      unfold Pb.mostN
      rw [hG, Pb.pwS_yes j hj]
      simp only [if_true]
      omega
    rw [e2] at e
    exact e
  have hvm := valid_more hv
  have hGr : ∀ W, Calls Tryz.prog 38 #[.agg #[.int .i64 l.k, .int .i64 l.e, .int .i64 l.a, .int .i64 l.b, .int .i64 l.c, .int .i64 l.eo, .int .i64 l.bo, .int .i64 l.s, .int .i64 l.g], .int .i64 ((8 * G : Nat) : Int)] W fun r w' => r = .returned (.int .i64 ((G * l.g.toNat : Nat) : Int)) ∧ Keeps W w' (fun _ => False) := fun W => by
    have e : groupsD l ((8 * G : Nat) : Int) = ((G * l.g.toNat : Nat) : Int) := by
      unfold groupsD
      rw [if_pos ⟨by rw [hG]; exact pwL_yes j hj, hv⟩, show ((8 * G : Nat) : Int) / 8 = (G : Int) by omega, Int.natCast_mul, Int.toNat_of_nonneg (by omega)]
    have := groups_any l ((8 * G : Nat) : Int) W
    rw [e] at this
    refine this.mono ?_
    rintro r w' ⟨rfl, k⟩
    exact ⟨rfl, Keeps.ofKp k⟩
  have hG0 : 0 < G := by rw [hG]; exact Nat.two_pow_pos j
  have hG13 : G ≤ 8192 := by rw [hG]; exact Nat.pow_le_pow_right (by decide) (show j ≤ 13 by omega)
  have hgp : 0 < G * l.g.toNat := Nat.mul_pos hG0 (by omega)
  have hcl := class_le (G * l.g.toNat) hgp hm
  rw [hc] at hcl
  have hlm := hF.lim
  have hP0 : ∀ gn, G * l.g.toNat = gn → gn ≤ c → TabP ((d.took 64).took c) ((d.took 64).took c) l d.bs.length (d.bs.length + 64) G 0 (fun _ => 0) := fun gn e hle => newP (l := l) (G := G) (c := c) hF hv hG0 hG13 (by omega) (by have := hW.2; omega) hu
  have hbl := hW.2
  have hP := hP0 _ rfl hcl.1
  clear hP0
  generalize G * l.g.toNat = gm at *
  have h64 : classN 64 = 64 := by decide
  have hci : classI 64 = 64 := by unfold classI; rw [if_pos (by omega)]; simp [h64]
  have hci2 : classI (gm : Int) = (c : Int) := by unfold classI; rw [if_pos (by omega), Int.toNat_natCast, hc]
  have htk : takeAll newT d [64, (gm : Int)] = ([(d.bs.length : Int), ((d.bs.length + 64 : Nat) : Int)], (d.took 64).took c) := by
    have e1 : (d.took 64).bs.length = d.bs.length + 64 := by rw [AD.took_bs, List.length_append, zeros_length]
    simp [takeAll, newT, hci, hci2, e1]
  have hfi : fitsIn ((d.limit : Int) - (d.used : Int)) [64, (gm : Int)] = true := by
    simp only [fitsIn, hci, hci2]
    rw [if_neg (by omega), if_neg (by omega)]
  have hal : allOne [64, (gm : Int)] := fun z hz => by
    simp only [List.mem_cons, List.not_mem_nil, or_false] at hz
    rcases hz with rfl | rfl <;> omega
  have hAll : Hid (∀ W, Keeps w W (fun _ => False) → Calls Tryz.prog 37 #[.pointer (some ⟨p, 0, none⟩), .slice (some ⟨W.heap.size, 0, none⟩) 2 2] (W.alloc (.cells #[.int .i64 64, .int .i64 (gm : Int)] 3)) fun e w' => AllPost (W.alloc (.cells #[.int .i64 64, .int .i64 (gm : Int)] 3)) p F [(d.bs.length : Int), ((d.bs.length + 64 : Nat) : Int)] ((d.took 64).took c) e w') := fun W k => by
    have k0 : Keeps W (W.alloc (.cells #[.int .i64 64, .int .i64 (gm : Int)] 3)) (fun _ => False) := (Keeps.refl _ _).alloc _
    have := allocAll_some newOK (hA.keeps (k.trans k0 (fun _ _ e => e)) (fun _ _ _ e => e)) hW hF W.heap.size 0 2 [64, (gm : Int)] (fun i hi => by
      simp only [World.cell?, heap_alloc_new]
      match i, hi with
      | 0, _ => simp
      | 1, _ => simp) (fun q => by have := hFl _ q; have := k.size; omega) (by simp) (by simp) hal hfi
    rw [htk] at this
    exact this
  have hBe : Hid (∀ {W : World} {F' : Nat → Prop}, Arena W p F' ((d.took 64).took c) → (∀ k, F' k → k < W.heap.size) → Calls Tryz.prog 40 #[.agg #[.pointer (some ⟨p, 0, none⟩), .int .i64 l.k, .int .i64 l.e, .int .i64 l.a, .int .i64 l.b, .int .i64 l.c, .int .i64 l.eo, .int .i64 l.bo, .int .i64 l.s, .int .i64 l.g, .int .i64 (d.bs.length : Int)], .int .i64 ((8 * G : Nat) : Int), .int .i64 depth, .int .i64 ((d.bs.length + 64 : Nat) : Int)] W fun e w' => (∃ v, e = .returned v) ∧ ∃ d', Turned W w' p F' d' ∧ d'.Fine ∧ TabD d' l d.bs.length (d.bs.length + 64) G (hdr0 ((8 * G : Nat) : Int) (Pb.mostN ((8 * G : Nat) : Int)) depth ((d.bs.length + 64 : Nat) : Int)) (fun _ => GC.zero) ∧ Alt ((d.took 64).took c) d' d.bs.length (d.bs.length + 64) (G * l.g.toNat)) := fun hA' hFl' =>
    begin_any hA' hFl' l d.bs.length (d.bs.length + 64) G hP depth (fitsI_mk (by omega) (by omega))
  have h7 : (((7 * G : Nat) : Int) == 0) = false := by
    rw [beq_eq_false_iff_ne]
    omega
  have hd0' : ¬ depth < 0 := by omega
  have hd6' : ¬ 6 < depth := by omega
  unfold TNewPost
  generalize hdr0 ((8 * G : Nat) : Int) (Pb.mostN ((8 * G : Nat) : Int)) depth ((d.bs.length + 64 : Nat) : Int) = ff at *
  generalize ((8 * G : Nat) : Int) = sl at *
  generalize (gm : Int) = gn at *
  generalize ((7 * G : Nat) : Int) = g7 at *
  clear hvm hci hci2 htk hfi hal hcl hP hlm hbl
  go_enter Tryz.func12, Tryz.ntmps12
  go_wp2_with fail
  refine alloc2 (P := fun W => Calls _ _ _ W _) fun W0 hb hr hz K0 => ?_
  (with_reducible refine (hM _).mono ?_)
  rintro r w1 ⟨rfl, rfl⟩
  have hb9 := nine_cells hb
  obtain ⟨l0, l1, l2, l3, l4, l5, l6, l7, l8⟩ := hb9
  go_wp2_with fail
  (with_reducible refine (hGr _).mono ?_)
  rintro r w2 ⟨rfl, k2⟩
  go_wp2_with fail
  (with_reducible refine (hAll.out w2 (K0.trans k2 (fun _ _ e => e))).mono ?_)
  rintro r w3 ⟨ho, hho, rfl, hbo, hA3, k3⟩
  have hnl : ¬ F w.heap.size := fun q => Nat.lt_irrefl _ (hFl _ q)
  have hsz2 := k2.size
  have hb3 : w3.heap[w.heap.size]? = some (.cells #[.int .i64 l.k, .int .i64 l.e, .int .i64 l.a, .int .i64 l.b, .int .i64 l.c, .int .i64 l.eo, .int .i64 l.bo, .int .i64 l.s, .int .i64 l.g] 27) := (k3.block _ (by simp; omega) hnl).trans (((Keeps.refl w2 (fun _ => False)).alloc _).blk (k2.blk hb))
  have ho0 : w3.cell? ⟨ho, 0, none⟩ = some (.int .i64 (d.bs.length : Int)) := by simp [World.cell?, hbo, cellI]
  have ho1 : w3.cell? ⟨ho, 1, none⟩ = some (.int .i64 ((d.bs.length + 64 : Nat) : Int)) := by simp [World.cell?, hbo, cellI]
  have C3 : N10 w.heap.size l ho (.int .i64 (d.bs.length : Int)) w3 := by
    obtain ⟨c0, c1, c2, c3, c4, c5, c6, c7, c8⟩ := nine_cells hb3
    exact ⟨c0, c1, c2, c3, c4, c5, c6, c7, c8, ho0⟩
  have hlb := heap_lt hb3
  have hlo := heap_lt hbo
  have hAt := fun W => tbat_any p l (d.bs.length : Int) W
  clear l0 l1 l2 l3 l4 l5 l6 l7 l8 hM hGr hAll
  simp only [List.length_cons, List.length_nil, Nat.zero_add, Nat.reduceAdd]
  go_wp2_with fail
  have SD : N10 w.heap.size l ho (.int .i64 (d.bs.length : Int)) w3.drew := n10_drew C3
  have SA : N10 w.heap.size l ho (.int .i64 (d.bs.length : Int)) (w3.alloc (Obj.cells #[.pointer none, .int .i64 0, .int .i64 0, .int .i64 0, .int .i64 0, .int .i64 0, .int .i64 0, .int .i64 0, .int .i64 0, .int .i64 0, .int .i64 0] 36)).drew := n10_drew (n10_alloc C3 _)
  have hr3 : w3.heap[w.heap.size + 1]? = some (.cells #[.pointer none, .int .i64 0, .int .i64 0, .int .i64 0, .int .i64 0, .int .i64 0, .int .i64 0, .int .i64 0, .int .i64 0, .int .i64 0, .int .i64 0] 36) := (k3.block _ (by have := heap_lt hr; simp; omega) (fun q => by have := hFl _ q; omega)).trans (((Keeps.refl w2 (fun _ => False)).alloc _).blk (k2.blk hr))
  have hx1 : w.heap.size ≠ w3.heap.size := by omega
  have hx2 : ho ≠ w3.heap.size := by omega
  go_region_held3 (fun w' => w'.cell? ⟨w.heap.size, 0, none⟩ = some (.int .i64 l.k) ∧ w'.cell? ⟨w.heap.size, 1, none⟩ = some (.int .i64 l.e) ∧ w'.cell? ⟨w.heap.size, 2, none⟩ = some (.int .i64 l.a) ∧ w'.cell? ⟨w.heap.size, 3, none⟩ = some (.int .i64 l.b) ∧ w'.cell? ⟨w.heap.size, 4, none⟩ = some (.int .i64 l.c) ∧ w'.cell? ⟨w.heap.size, 5, none⟩ = some (.int .i64 l.eo) ∧ w'.cell? ⟨w.heap.size, 6, none⟩ = some (.int .i64 l.bo) ∧ w'.cell? ⟨w.heap.size, 7, none⟩ = some (.int .i64 l.s) ∧ w'.cell? ⟨w.heap.size, 8, none⟩ = some (.int .i64 l.g) ∧ w'.cell? ⟨ho, 0, none⟩ = some (.int .i64 (d.bs.length : Int))) (with_reducible assumption)
    (first
      | (go_at_call 39; (with_reducible refine (hAt _).mono ?_); rintro r wA ⟨rfl, kA⟩; (with_reducible have hbl := kA.blk (heap_new_drew w3 (Obj.cells #[.pointer none, .int .i64 0, .int .i64 0, .int .i64 0, .int .i64 0, .int .i64 0, .int .i64 0, .int .i64 0, .int .i64 0, .int .i64 0, .int .i64 0] 36))); obtain ⟨⟨a0, a1, a2, a3, a4, a5, a6, a7, a8, a9, a10⟩, f0, f1, f2, f3, f4, f5, f6, f7, f8, f9, f10⟩ := eleven_cells hbl; have S1 : N10 w.heap.size l ho (.int .i64 (d.bs.length : Int)) wA := n10_keeps kA id id SA; have S2 := n10_set (x := w3.heap.size) (v0 := .pointer (some ⟨p, 0, none⟩)) (v1 := .int .i64 l.k) (v2 := .int .i64 l.e) (v3 := .int .i64 l.a) (v4 := .int .i64 l.b) (v5 := .int .i64 l.c) (v6 := .int .i64 l.eo) (v7 := .int .i64 l.bo) (v8 := .int .i64 l.s) (v9 := .int .i64 l.g) (v10 := .int .i64 (d.bs.length : Int)) S1 hx1 hx2)
      | (go_at_call 39; (with_reducible refine (hAt _).mono ?_); rintro r wA ⟨rfl, kA⟩; have hsA := kA.size; have S1 : N10 w.heap.size l ho (.int .i64 (d.bs.length : Int)) wA := n10_keeps kA id id SD; have S1a : N10 w.heap.size l ho (.int .i64 (d.bs.length : Int)) (wA.alloc (Obj.cells #[.pointer none, .int .i64 0, .int .i64 0, .int .i64 0, .int .i64 0, .int .i64 0, .int .i64 0, .int .i64 0, .int .i64 0, .int .i64 0, .int .i64 0] 36)) := n10_alloc S1 _; have S2 : N10 w.heap.size l ho (.int .i64 (d.bs.length : Int)) (wA.alloc (.cells #[.pointer (some ⟨p, 0, none⟩), .int .i64 l.k, .int .i64 l.e, .int .i64 l.a, .int .i64 l.b, .int .i64 l.c, .int .i64 l.eo, .int .i64 l.bo, .int .i64 l.s, .int .i64 l.g, .int .i64 (d.bs.length : Int)] 36)) := n10_alloc S1 _))
  · refine alloc1 (P := fun W => Exit.then _ _ _ _ W) fun W4 hb4 hz4 kA4 => ?_
    have k34 : Keeps w3 W4 (fun _ => False) := (((Keeps.refl w3 (fun _ => False)).drew.trans kA (fun _ _ e => e))).trans kA4 (fun _ _ e => e)
    have hBt : w3.heap.size ≤ wA.heap.size := kA.size
    have A3 := hA3.mono (G := fun k => ((F k ∨ (w2.alloc (.cells #[.int .i64 64, .int .i64 gn] 3)).heap.size ≤ k) ∧ k ≠ ho) ∧ k < w3.heap.size) (fun i hi q => ⟨q, hi⟩)
    have A4 := A3.keeps (k34.drew) (fun _ _ _ e => e)
    have hz2 : (w2.alloc (.cells #[.int .i64 64, .int .i64 gn] 3)).heap.size = w2.heap.size + 1 := by simp
    have hFl4 : ∀ k, (((F k ∨ (w2.alloc (.cells #[.int .i64 64, .int .i64 gn] 3)).heap.size ≤ k) ∧ k ≠ ho) ∧ k < w3.heap.size) → k < W4.drew.heap.size := fun k q => Nat.lt_of_lt_of_le q.2 k34.size
    have hnb : ¬ (((F wA.heap.size ∨ (w2.alloc (.cells #[.int .i64 64, .int .i64 gn] 3)).heap.size ≤ wA.heap.size) ∧ wA.heap.size ≠ ho) ∧ wA.heap.size < w3.heap.size) := fun q => by have := q.2; omega
    have hnr : ¬ (((F (w.heap.size + 1) ∨ (w2.alloc (.cells #[.int .i64 64, .int .i64 gn] 3)).heap.size ≤ w.heap.size + 1) ∧ w.heap.size + 1 ≠ ho) ∧ w.heap.size + 1 < w3.heap.size) := fun q => by
      rcases q.1.1 with e | e
      · have := hFl _ e; omega
      · omega
    have SD : C11 wA.heap.size p l (d.bs.length : Int) W4.drew ∧ W4.drew.cell? ⟨ho, 1, none⟩ = some (.int .i64 ((d.bs.length + 64 : Nat) : Int)) := ⟨c11_of hb4, (World.cell?_of_block (w := w3) (a := ⟨ho, 1, none⟩) (k34.block _ hlo id)).trans ho1⟩
    have hr4 := k34.blk hr3
    have hBe4 := hBe.out A4 hFl4
    rw [show ((d.bs.length + 64 : Nat) : Int) = (d.bs.length : Int) + 64 by omega] at hBe4
    have HH := hide (And.intro A3 (And.intro k34 (And.intro hnb (And.intro hnr hb4))))
    have HR := hide hr4
    clear hBe A3 A4 hA3 k34 hb4 hr4 hr3 S2 S1 SA kA
    go_wp2_with fail
    go_region_held3 (fun w' => (w'.cell? ⟨wA.heap.size, 0, none⟩ = some (.pointer (some ⟨p, 0, none⟩)) ∧ w'.cell? ⟨wA.heap.size, 1, none⟩ = some (.int .i64 l.k) ∧ w'.cell? ⟨wA.heap.size, 2, none⟩ = some (.int .i64 l.e) ∧ w'.cell? ⟨wA.heap.size, 3, none⟩ = some (.int .i64 l.a) ∧ w'.cell? ⟨wA.heap.size, 4, none⟩ = some (.int .i64 l.b) ∧ w'.cell? ⟨wA.heap.size, 5, none⟩ = some (.int .i64 l.c) ∧ w'.cell? ⟨wA.heap.size, 6, none⟩ = some (.int .i64 l.eo) ∧ w'.cell? ⟨wA.heap.size, 7, none⟩ = some (.int .i64 l.bo) ∧ w'.cell? ⟨wA.heap.size, 8, none⟩ = some (.int .i64 l.s) ∧ w'.cell? ⟨wA.heap.size, 9, none⟩ = some (.int .i64 l.g) ∧ w'.cell? ⟨wA.heap.size, 10, none⟩ = some (.int .i64 (d.bs.length : Int))) ∧ w'.cell? ⟨ho, 1, none⟩ = some (.int .i64 ((d.bs.length + 64 : Nat) : Int))) (with_reducible assumption)
      (first | (go_at_call 40; (with_reducible refine hBe4.mono ?_); rintro r w5 ⟨⟨v, rfl⟩, d2, hT2, hF2, h2, ha2⟩; have S5 : C11 wA.heap.size p l (d.bs.length : Int) w5 ∧ w5.cell? ⟨ho, 1, none⟩ = some (.int .i64 ((d.bs.length + 64 : Nat) : Int)) := ⟨c11_keeps hT2.2 HH.out.2.2.1 SD.1, keeps_cell hT2.2 (fun q => q.1.2 rfl) SD.2⟩))
    all_goals (
      have hr5 := hT2.2.blkS HR.out HH.out.2.2.2.1
      have HT := hide (And.intro hT2 (And.intro hF2 (And.intro h2 ha2)))
      obtain ⟨⟨x0, x1, x2, x3, x4, x5, x6, x7, x8, x9, x10⟩, -⟩ := S5
      obtain ⟨⟨d0, d1, d2', d3, d4, d5, d6, d7, d8, d9, d10⟩, g0, g1, g2, g3, g4, g5, g6, g7', g8, g9, g10⟩ := eleven_cells hr5
      clear hT2 hF2 h2 ha2 SD hBe4
      go_wp2_with fail
      refine eleven_set hr5 (Keeps.refl w5 (fun i => i = w.heap.size + 1)) (fun _ => rfl) (P := fun w9 => bodyPost _ _ _ _ _ w9) fun w9 h9 k9 _ => ?_
      obtain ⟨⟨e0, e1, e2, e3, e4, e5, e6, e7, e8, e9, e10⟩, -⟩ := eleven_cells h9
      refine bodyPost_ret (v := .tuple #[.agg #[.pointer (some ⟨p, 0, none⟩), .int .i64 l.k, .int .i64 l.e, .int .i64 l.a, .int .i64 l.b, .int .i64 l.c, .int .i64 l.eo, .int .i64 l.bo, .int .i64 l.s, .int .i64 l.g, .int .i64 (d.bs.length : Int)], .int .i64 0]) (by simp [results, Tryz.results12, go_sem, e0, e1, e2, e3, e4, e5, e6, e7, e8, e9, e10]) rfl ⟨rfl, d2, ?_, HT.out.2.1, HT.out.2.2.1, HT.out.2.2.2⟩
      obtain ⟨A3, k34, hnb, hnr, -⟩ := HH.out
      have hT2 := HT.out.1
      have hzw := K0.size
      have hzk := k34.size
      refine ⟨(hT2.1.keeps k9 (fun i hi q e => ?_)).mono (fun i hi q => ?_), ?_⟩
      · subst e
        rcases q with q | q
        · exact hnr q
        · have : W4.drew.heap.size ≤ w.heap.size + 1 := q
          have : W4.heap.size ≤ w.heap.size + 1 := this
          omega
      · rcases q with q | q
        · rcases q.1.1 with e | e
          · exact Or.inl e
          · exact Or.inr (by omega)
        · have : W4.heap.size ≤ i := q
          exact Or.inr (by omega)
      · have kk2 : Keeps w (w2.alloc (.cells #[.int .i64 64, .int .i64 gn] 3)) (fun _ => False) := (K0.trans k2 (fun _ _ e => e)).alloc _
        have kk3 : Keeps w w3 F := (kk2.mono (fun _ _ e => e.elim)).trans k3 (fun _ _ e => e)
        have kk4 : Keeps w W4.drew F := (kk3.trans k34 (fun _ _ e => e.elim)).drew
        exact (kk4.trans hT2.2 (fun i hi q => by
          rcases q.1.1 with e | e
          · exact e
          · have := kk2.size; omega)).trans k9 (fun i hi e => by omega))
  · have kAA : Keeps w3 wA (fun _ => False) := (((Keeps.refl w3 (fun _ => False)).alloc _).drew.trans kA (fun _ _ e => e))
    refine eleven_set hbl kAA (fun e => absurd e (Nat.lt_irrefl _)) (P := fun W => Exit.then _ _ _ _ W) fun W4 hb4 k34 _ => ?_
    have hBt : w3.heap.size ≤ w3.heap.size := Nat.le_refl _
    clear a0 a1 a2 a3 a4 a5 a6 a7 a8 a9 a10 f0 f1 f2 f3 f4 f5 f6 f7 f8 f9 f10 kAA
    have A3 := hA3.mono (G := fun k => ((F k ∨ (w2.alloc (.cells #[.int .i64 64, .int .i64 gn] 3)).heap.size ≤ k) ∧ k ≠ ho) ∧ k < w3.heap.size) (fun i hi q => ⟨q, hi⟩)
    have A4 := A3.keeps (k34.drew) (fun _ _ _ e => e)
    have hz2 : (w2.alloc (.cells #[.int .i64 64, .int .i64 gn] 3)).heap.size = w2.heap.size + 1 := by simp
    have hFl4 : ∀ k, (((F k ∨ (w2.alloc (.cells #[.int .i64 64, .int .i64 gn] 3)).heap.size ≤ k) ∧ k ≠ ho) ∧ k < w3.heap.size) → k < W4.drew.heap.size := fun k q => Nat.lt_of_lt_of_le q.2 k34.size
    have hnb : ¬ (((F w3.heap.size ∨ (w2.alloc (.cells #[.int .i64 64, .int .i64 gn] 3)).heap.size ≤ w3.heap.size) ∧ w3.heap.size ≠ ho) ∧ w3.heap.size < w3.heap.size) := fun q => by have := q.2; omega
    have hnr : ¬ (((F (w.heap.size + 1) ∨ (w2.alloc (.cells #[.int .i64 64, .int .i64 gn] 3)).heap.size ≤ w.heap.size + 1) ∧ w.heap.size + 1 ≠ ho) ∧ w.heap.size + 1 < w3.heap.size) := fun q => by
      rcases q.1.1 with e | e
      · have := hFl _ e; omega
      · omega
    have SD : C11 w3.heap.size p l (d.bs.length : Int) W4.drew ∧ W4.drew.cell? ⟨ho, 1, none⟩ = some (.int .i64 ((d.bs.length + 64 : Nat) : Int)) := ⟨c11_of hb4, (World.cell?_of_block (w := w3) (a := ⟨ho, 1, none⟩) (k34.block _ hlo id)).trans ho1⟩
    have hr4 := k34.blk hr3
    have hBe4 := hBe.out A4 hFl4
    rw [show ((d.bs.length + 64 : Nat) : Int) = (d.bs.length : Int) + 64 by omega] at hBe4
    have HH := hide (And.intro A3 (And.intro k34 (And.intro hnb (And.intro hnr hb4))))
    have HR := hide hr4
    clear hBe A3 A4 hA3 k34 hb4 hr4 hr3 S2 S1 SA kA hbl
    go_wp2_with fail
    go_region_held3 (fun w' => (w'.cell? ⟨w3.heap.size, 0, none⟩ = some (.pointer (some ⟨p, 0, none⟩)) ∧ w'.cell? ⟨w3.heap.size, 1, none⟩ = some (.int .i64 l.k) ∧ w'.cell? ⟨w3.heap.size, 2, none⟩ = some (.int .i64 l.e) ∧ w'.cell? ⟨w3.heap.size, 3, none⟩ = some (.int .i64 l.a) ∧ w'.cell? ⟨w3.heap.size, 4, none⟩ = some (.int .i64 l.b) ∧ w'.cell? ⟨w3.heap.size, 5, none⟩ = some (.int .i64 l.c) ∧ w'.cell? ⟨w3.heap.size, 6, none⟩ = some (.int .i64 l.eo) ∧ w'.cell? ⟨w3.heap.size, 7, none⟩ = some (.int .i64 l.bo) ∧ w'.cell? ⟨w3.heap.size, 8, none⟩ = some (.int .i64 l.s) ∧ w'.cell? ⟨w3.heap.size, 9, none⟩ = some (.int .i64 l.g) ∧ w'.cell? ⟨w3.heap.size, 10, none⟩ = some (.int .i64 (d.bs.length : Int))) ∧ w'.cell? ⟨ho, 1, none⟩ = some (.int .i64 ((d.bs.length + 64 : Nat) : Int))) (with_reducible assumption)
      (first | (go_at_call 40; (with_reducible refine hBe4.mono ?_); rintro r w5 ⟨⟨v, rfl⟩, d2, hT2, hF2, h2, ha2⟩; have S5 : C11 w3.heap.size p l (d.bs.length : Int) w5 ∧ w5.cell? ⟨ho, 1, none⟩ = some (.int .i64 ((d.bs.length + 64 : Nat) : Int)) := ⟨c11_keeps hT2.2 HH.out.2.2.1 SD.1, keeps_cell hT2.2 (fun q => q.1.2 rfl) SD.2⟩))
    all_goals (
      have hr5 := hT2.2.blkS HR.out HH.out.2.2.2.1
      have HT := hide (And.intro hT2 (And.intro hF2 (And.intro h2 ha2)))
      obtain ⟨⟨x0, x1, x2, x3, x4, x5, x6, x7, x8, x9, x10⟩, -⟩ := S5
      obtain ⟨⟨d0, d1, d2', d3, d4, d5, d6, d7, d8, d9, d10⟩, g0, g1, g2, g3, g4, g5, g6, g7', g8, g9, g10⟩ := eleven_cells hr5
      clear hT2 hF2 h2 ha2 SD hBe4
      go_wp2_with fail
      refine eleven_set hr5 (Keeps.refl w5 (fun i => i = w.heap.size + 1)) (fun _ => rfl) (P := fun w9 => bodyPost _ _ _ _ _ w9) fun w9 h9 k9 _ => ?_
      obtain ⟨⟨e0, e1, e2, e3, e4, e5, e6, e7, e8, e9, e10⟩, -⟩ := eleven_cells h9
      refine bodyPost_ret (v := .tuple #[.agg #[.pointer (some ⟨p, 0, none⟩), .int .i64 l.k, .int .i64 l.e, .int .i64 l.a, .int .i64 l.b, .int .i64 l.c, .int .i64 l.eo, .int .i64 l.bo, .int .i64 l.s, .int .i64 l.g, .int .i64 (d.bs.length : Int)], .int .i64 0]) (by simp [results, Tryz.results12, go_sem, e0, e1, e2, e3, e4, e5, e6, e7, e8, e9, e10]) rfl ⟨rfl, d2, ?_, HT.out.2.1, HT.out.2.2.1, HT.out.2.2.2⟩
      obtain ⟨A3, k34, hnb, hnr, -⟩ := HH.out
      have hT2 := HT.out.1
      have hzw := K0.size
      have hzk := k34.size
      refine ⟨(hT2.1.keeps k9 (fun i hi q e => ?_)).mono (fun i hi q => ?_), ?_⟩
      · subst e
        rcases q with q | q
        · exact hnr q
        · have : W4.drew.heap.size ≤ w.heap.size + 1 := q
          have : W4.heap.size ≤ w.heap.size + 1 := this
          omega
      · rcases q with q | q
        · rcases q.1.1 with e | e
          · exact Or.inl e
          · exact Or.inr (by omega)
        · have : W4.heap.size ≤ i := q
          exact Or.inr (by omega)
      · have kk2 : Keeps w (w2.alloc (.cells #[.int .i64 64, .int .i64 gn] 3)) (fun _ => False) := (K0.trans k2 (fun _ _ e => e)).alloc _
        have kk3 : Keeps w w3 F := (kk2.mono (fun _ _ e => e.elim)).trans k3 (fun _ _ e => e)
        have kk4 : Keeps w W4.drew F := (kk3.trans k34 (fun _ _ e => e.elim)).drew
        exact (kk4.trans hT2.2 (fun i hi q => by
          rcases q.1.1 with e | e
          · exact e
          · have := kk2.size; omega)).trans k9 (fun i hi e => by omega))
end Go.Proofs.YtmdnknbolgedgaaGreatDoor
/-
  Order, and a range over it.
-/
namespace Go.Proofs.YtmdnknbolgedgaaGreatDoor.Pb
open Go.RowKit Go.Shelf
set_option linter.unusedVariables false

attribute [local go_sem] Oper.semAt_some

/-- What was there stays; what is new may be anything. -/
def Kp (w w' : World) : Prop := Below w.heap.size w w'
theorem Kp.refl (w : World) : Kp w w := Below.refl _ _
theorem Kp.trans {w w1 w2 : World} (h : Kp w w1) (k : Kp w1 w2) : Kp w w2 := Below.trans h (Below.mono k h.size)
theorem Kp.alloc {w w1 : World} (h : Kp w w1) (o : Obj) : Kp w (w1.alloc o) := Below.alloc h h.size o
theorem Kp.drew {w w1 : World} (h : Kp w w1) : Kp w w1.drew := Below.drew h
theorem Kp.blk {w w1 : World} (h : Kp w w1) {q : Nat} {o : Obj} (hq : w.heap[q]? = some o) : w1.heap[q]? = some o := (h.block q (Array.getElem?_eq_some_iff.1 hq).1).trans hq
theorem Kp.cell {w w1 : World} (h : Kp w w1) {p : Addr} {v : Value} (hp : w.cell? p = some v) : w1.cell? p = some v := by
  have : p.block < w.heap.size := by
    refine Nat.lt_of_not_le fun hn => ?_
    rw [World.cell?, Array.getElem?_eq_none hn] at hp
    cases hp
  exact (Below.cell h this).trans hp
theorem heap_new (w : World) (o : Obj) : (w.alloc o).heap[w.heap.size]? = some o := World.alloc_heap_new w o
theorem heap_old {w : World} {q : Nat} {o o' : Obj} (h : w.heap[q]? = some o') : (w.alloc o).heap[q]? = some o' := ((Kp.refl w).alloc o).blk h
theorem one_cell {w : World} {b : Nat} {v : Value} {t : TypeId} (h : w.heap[b]? = some (.cells #[v] t)) : w.cell? ⟨b, 0, none⟩ = some v ∧ w.frozen? ⟨b, 0, none⟩ = false := by
  constructor
  · simp [World.cell?, h]
  · simp [World.frozen?, h]

/-- The groups in their order. -/
def ordN (h : Nat) (g : Int) : List Nat := if pw g 1 8192 = true then (List.range g.toNat).map (metN h g.toNat) else []
theorem ordN_no {h : Nat} {g : Int} (hq : pw g 1 8192 = false) : ordN h g = [] := by unfold ordN; rw [hq]; rfl
theorem ordN_yes {h k : Nat} (hk : k ≤ 13) : ordN h ((2 ^ k : Nat) : Int) = (List.range (2 ^ k)).map (metN h (2 ^ k)) := by unfold ordN; rw [pwG_pow hk]; rfl

/-- Two blocks stay as they are. -/
def Stay (b c : Nat) (W W' : World) : Prop := ∀ (q : Nat) (o : Obj), q = b ∨ q = c → W.heap[q]? = some o → W'.heap[q]? = some o
theorem Stay.refl (b c : Nat) (W : World) : Stay b c W W := fun _ _ _ h => h
theorem Stay.trans {b c : Nat} {A B C : World} (h : Stay b c A B) (k : Stay b c B C) : Stay b c A C := fun q o hq e => k q o hq (h q o hq e)
theorem Stay.kp {b c : Nat} {W W' : World} (k : Kp W W') : Stay b c W W' := fun _ _ _ h => k.blk h

theorem abides_kp {β : Type} {B : Nat} {J : β → World → Prop} (h : AbidesFrom B J) {s : β} {W W' : World} (hJ : J s W) (k : Kp W W') : J s W' :=
  h s W W' none hJ ⟨k.os, k.tape, k.output, k.size, fun i hi _ => k.block i hi⟩ (fun r e => by cases e)

set_option maxHeartbeats 1000000 in
theorem order_call (h g : Int) (w : World) :
    Calls Tryz.prog 71 #[.int .u64 h, .int .i64 g] w fun e w' => e = .returned (.func (.func 108) #[] #[.pointer (some ⟨w.heap.size + 1, 0, none⟩), .pointer (some ⟨w.heap.size, 0, none⟩)]) ∧ w' = (w.alloc (.cells #[.int .u64 h] 23)).alloc (.cells #[.int .i64 g] 3) := by
  go_enter Tryz.func71, Tryz.ntmps71
  go_wp2
  go_ret
  exact ⟨by simp, rfl⟩

set_option maxRecDepth 100000 in
set_option maxHeartbeats 4000000 in
theorem order_each (n : Nat) (hn : 1 ≤ n) (l Bg Bh B h : Nat) (g : Int) (hh : h < 18446744073709551616) (J Jx : List Nat → World → Prop) (hAb : AbidesFrom B J)
    (hY : ∀ pre (x : Nat) W, J pre W → pre.length < (ordN h g).length → YieldAt Fence.wide (n - 1) Tryz.prog l #[.int .i64 (x : Int)] W fun e W' =>
      (e = .returned (.bool true) ∧ J (pre ++ [x]) W' ∧ Stay Bg Bh W W') ∨ (e = .returned (.bool false) ∧ Jx (pre ++ [x]) W'))
    (W : World) (hg : W.heap[Bg]? = some (.cells #[.int .i64 g] 3)) (hb : W.heap[Bh]? = some (.cells #[.int .u64 (h : Int)] 23)) (hJ0 : J [] W) :
    CallsIn Fence.wide n Tryz.prog 108 #[.func (.yield l) #[] #[], .pointer (some ⟨Bg, 0, none⟩), .pointer (some ⟨Bh, 0, none⟩)] W fun e W' => (∃ v, e = .returned v) ∧
      ((∃ ys, ys = ordN h g ∧ J ys W') ∨ (∃ pre, pre <+: ordN h g ∧ Jx pre W')) := by
  have hro : Fence.wide.round = none := rfl
  obtain ⟨c1, c2⟩ := one_cell hg
  obtain ⟨d1, d2⟩ := one_cell hb
  have hI := isGroups_any g W
  cases hq : pw g 1 8192
  · have hO := hide (ordN_no (h := h) hq)
    rw [hq] at hI
    have HJ := hide hJ0
    clear hY hJ0
    refine callsIn_of_wp Tryz.func108 rfl trivial ?_ hro
    simp only [Tryz.ntmps108, List.size_toArray, List.length_cons, List.length_nil, Nat.reduceAdd, Nat.reduceSub, Array.replicate_succ, Array.replicate_zero, List.push_toArray, List.append_toArray, List.nil_append, List.cons_append]
    gi_wp2_with fail
    refine ⟨trivial, (callsIn_wide.2 hI).mono ?_⟩
    rintro e W2 ⟨rfl, rfl⟩
    gi_wp2_with fail
    refine bodyPost_ret (results_none rfl _ _ _) rfl ?_
    exact ⟨⟨_, rfl⟩, .inl ⟨[], hO.out.symm, HJ.out⟩⟩
  · obtain ⟨k, hk, rfl⟩ := pwG hq
    rw [hq] at hI
    have hm := met_any h k
    have hL := ordN_yes (h := h) hk
    have hlen : (ordN h ((2 ^ k : Nat) : Int)).length = 2 ^ k := by rw [hL]; simp
    obtain ⟨g1, g2⟩ := pow_bounds hk
    clear hq
    have hL' : Hid (∀ i, i < 2 ^ k → (List.range (i + 1)).map (metN h (2 ^ k)) <+: ordN h ((2 ^ k : Nat) : Int)) := fun i hi => by
      rw [hL]
      have := List.take_prefix (i + 1) ((List.range (2 ^ k)).map (metN h (2 ^ k)))
      rwa [← List.map_take, List.take_range, Nat.min_eq_left (by omega)] at this
    have hE : Hid (ordN h ((2 ^ k : Nat) : Int) = (List.range (2 ^ k)).map (metN h (2 ^ k))) := hL
    clear hL
    generalize ordN h ((2 ^ k : Nat) : Int) = L at *
    have hmm : Hid (∀ (i : Nat) (w : World), i < 2 ^ k → Calls Tryz.prog 48 #[.int .u64 (h : Int), .int .i64 ((2 ^ k : Nat) : Int), .int .i64 (i : Int)] w fun e w' => e = .returned (.int .i64 ((metN h (2 ^ k) i : Nat) : Int)) ∧ w' = w) := fun i w hi => hm i w hk hi hh
    clear hm
    generalize 2 ^ k = G at *
    refine callsIn_of_wp Tryz.func108 rfl trivial ?_ hro
    simp only [Tryz.ntmps108, List.size_toArray, List.length_cons, List.length_nil, Nat.reduceAdd, Nat.reduceSub, Array.replicate_succ, Array.replicate_zero, List.push_toArray, List.append_toArray, List.nil_append, List.cons_append]
    gi_wp2_with fail
    refine ⟨trivial, (callsIn_wide.2 hI).mono ?_⟩
    rintro e W2 ⟨rfl, rfl⟩
    gi_wp2_with fail
    clear c1 c2 d1 d2 hI
    gi_loopg [9] G (fun gm v9 wr => ∃ i : Nat, gm = G - i ∧ i ≤ G ∧ v9 = .int .i64 (i : Int) ∧ wr.heap[Bg]? = some (.cells #[.int .i64 (G : Int)] 3) ∧ wr.heap[Bh]? = some (.cells #[.int .u64 (h : Int)] 23) ∧ J ((List.range i).map (metN h G)) wr)
    case atStart => exact ⟨0, rfl, by omega, rfl, hg, hb, hJ0⟩
    case round =>
      clear hg hb hJ0
      obtain ⟨i, rfl, hi, rfl, hg, hb, hJ⟩ := hrel
      obtain ⟨c1, c2⟩ := one_cell hg
      obtain ⟨d1, d2⟩ := one_cell hb
      by_cases hlt : i < G
      · have hlt' : (i : Int) < (G : Int) := by omega
        have hm := hmm.out i wr hlt
        have hsn : (List.range (i + 1)).map (metN h G) = (List.range i).map (metN h G) ++ [metN h G i] := by rw [List.range_succ, List.map_append]; rfl
        have hplen : ((List.range i).map (metN h G)).length < L.length := by rw [hlen]; simpa using hlt
        obtain ⟨fn, tmps, assign, body, hy, hRd⟩ := hY _ (metN h G i) wr hJ hplen
        rw [← hsn] at hRd
        have HL := hide (hL'.out i hlt)
        generalize metN h G i = X at *
        clear hJ hplen hY hsn
        gi_wp2_with fail
        refine ⟨trivial, (callsIn_wide.2 hm).mono ?_⟩
        rintro e W2 ⟨rfl, rfl⟩
        gi_wp2
        refine hRd.mono ?_
        rintro e W4 (⟨rfl, hJ4, hk4⟩ | ⟨rfl, hJx4⟩)
        · have HJ := hide hJ4
          have hg4 := hk4 _ _ (.inl rfl) hg
          have hb4 := hk4 _ _ (.inr rfl) hb
          clear hJ4 hk4 hRd hy hm
          gi_wp2_with fail
          gi_roundg (G - (i + 1))
          case measure => omega
          case rel => exact ⟨i + 1, rfl, by omega, rfl, hg4, hb4, HJ.out⟩
        · have HX : Hid (∃ pre, pre <+: L ∧ Jx pre W4) := ⟨_, HL.out, hJx4⟩
          clear HL hJx4 hRd hy hm
          gi_wp2
          refine bodyPost_ret (results_none rfl _ _ _) rfl ?_
          exact ⟨⟨_, rfl⟩, .inr HX.out⟩
      · obtain rfl : i = G := by omega
        have HJ := hide hJ
        clear hJ hY
        gi_wp2_with fail
        go_end0
        exact ⟨⟨_, rfl⟩, .inl ⟨_, hE.out.symm, HJ.out⟩⟩

/-- A range over Order gives the groups in their order, or stops behind some of them. -/
theorem order_stops (n : Nat) (hn : 1 ≤ n) (Bg Bh h : Nat) (g : Int) (hh : h < 18446744073709551616) (w : World) (hg : w.heap[Bg]? = some (.cells #[.int .i64 g] 3)) (hb : w.heap[Bh]? = some (.cells #[.int .u64 (h : Int)] 23)) :
    SeqStopsK Fence.wide n Tryz.prog 108 #[.pointer (some ⟨Bg, 0, none⟩), .pointer (some ⟨Bh, 0, none⟩)] (fun x : Nat => #[Value.int .i64 (x : Int)]) (Stay Bg Bh) (fun ys => ys = ordN h g) (fun pre => pre <+: ordN h g) (ordN h g).length w := fun l J Jx W hW hAb _ hY h0 =>
  order_each n hn l Bg Bh W.heap.size h g hh J Jx hAb hY W (Kp.blk hW hg) (Kp.blk hW hb) h0
end Go.Proofs.YtmdnknbolgedgaaGreatDoor.Pb
/-
  As RT1, where the body knows its loop; Order so.
-/
namespace Go.Proofs.YtmdnknbolgedgaaGreatDoor
open Go.RowKit Go.Shelf Ly Ct
set_option linter.unusedVariables false

section
variable {σ α : Type}

/-- The iterator's word: at a state s it gives an x with Gx x s; behind the round the state is one with Nx x s; at its end Ex holds of the state. What it needs of the world at a state is Rx. -/
def SeqTied (n : Nat) (g : Nat) (lb : Array Value) (encs : α → Array Value) (Gx : α → σ → Prop) (Nx : α → σ → σ → Prop) (Ex : σ → Prop) (Rx : σ → World → Prop) (s0 : σ) : Prop :=
  ∀ (l : Nat) (J : σ → World → Prop) (Jx : World → Prop) (W : World), (∀ s V V', J s V → Keeps V V' (fun _ => False) → J s V') → (∀ s V, J s V → Rx s V) →
    (∀ x s V, J s V → Gx x s → YieldAt Fence.wide (n - 1) Tryz.prog l (encs x) V fun e V' => (e = .returned (.bool true) ∧ ∃ s', Nx x s s' ∧ J s' V') ∨ (e = .returned (.bool false) ∧ Jx V')) →
    J s0 W →
    CallsIn Fence.wide n Tryz.prog g (#[.func (.yield l) #[] #[]] ++ lb) W fun e W' => (∃ v, e = .returned v) ∧ ((∃ s, Ex s ∧ J s W') ∨ Jx W')

/-- How a round's body may be left: the loop's two blocks lie as they lay. -/
def TiedPost (B : Nat) (I : σ → World → Prop) (Ix : Code → World → Prop) (Nx : σ → Prop) (W : World) : Exit → Act → World → Prop
  | .normal, _, V => (∀ k, k = B ∨ k = B + 1 → V.heap[k]? = W.heap[k]?) ∧ ∃ s, Nx s ∧ I s V
  | .ret, _, V => (∀ k, k = B ∨ k = B + 1 → V.heap[k]? = W.heap[k]?) ∧ Ix .ret V
  | .exit i, _, V => (∀ k, k = B ∨ k = B + 1 → V.heap[k]? = W.heap[k]?) ∧ Ix (.exit i) V
  | .goto t, _, V => (∀ k, k = B ∨ k = B + 1 → V.heap[k]? = W.heap[k]?) ∧ Ix (.goto t) V
  | .panic _, _, _ => False
  | .outgrown, _, _ => False

theorem range_tied {n : Nat} {op : Operand} {ps : Array Tmp} {assign body : Code} {Q : Exit → Act → World → Prop} {a : Act} {w : World} (h1 : 2 ≤ n) {gf : Nat} {lb : Array Value}
    (hop : a.eval op = .func (.func gf) #[] lb) (eg : ∀ args w, (callFunc gf args).run Tryz.prog w = .ok (.enter gf args) w)
    {encs : α → Array Value} {Gx : α → σ → Prop} {Nx : α → σ → σ → Prop} {Ex : σ → Prop} {Rx : σ → World → Prop} {s0 : σ} (hseq : SeqTied (n - 1) gf lb encs Gx Nx Ex Rx s0)
    (hps : ∀ x, (encs x).size = ps.size) (Ax : Act → α → Act → World → Prop) (hAx : ∀ x a' V r o, Ax a x a' V → V.heap[w.heap.size + 1]? = some (.loop r) → Ax a x a' (V.putObj (w.heap.size + 1) o)) (I : σ → World → Prop) (Ix : Code → World → Prop) (hR : ∀ s V, I s V → Rx s V)
    (hI : ∀ s V V', I s V → Keeps V V' (fun _ => False) → I s V')
    (hIp : ∀ s V r o, I s V → V.heap[w.heap.size + 1]? = some (.loop r) → I s (V.putObj (w.heap.size + 1) o))
    (hXp : ∀ c V r o, Ix c V → V.heap[w.heap.size + 1]? = some (.loop r) → Ix c (V.putObj (w.heap.size + 1) o))
    (h0 : ∀ r, I s0 ((w.alloc (.deferred (some []))).alloc (.loop r)))
    (hassign : ∀ x s W (K : Act → World → Prop), I s W → (∀ a' W', Keeps W W' (fun _ => False) → Ax a x a' W' → K a' W') →
      assign.wpIn (Fence.wide.inRound (w.heap.size + 1)) (n - 1 - 1) Tryz.prog (Exit.then K (fun _ _ _ => False)) { tmps := (ps.zip (encs x)).foldl (fun t (p, v) => t.setIfInBounds p v) a.tmps, defers := [] } W)
    (hbody : ∀ x s a' W, (∃ r, W.heap[w.heap.size + 1]? = some (.loop r)) → I s W → Ax a x a' W → Gx x s → body.wpIn (Fence.wide.inRound (w.heap.size + 1)) (n - 1 - 1) Tryz.prog (TiedPost w.heap.size I Ix (Nx x s) W) a' W)
    (hdone : ∀ s W, Ex s → I s W → W.heap[w.heap.size]? = some (.deferred (some [])) → Q .normal { a with defers := { target := .collected w.heap.size, args := #[] } :: a.defers } W)
    (hstop : ∀ c W, Ix c W → W.heap[w.heap.size]? = some (.deferred (some [])) → c.wpIn Fence.wide n Tryz.prog Q { a with defers := { target := .collected w.heap.size, args := #[] } :: a.defers } W) :
    (Code.rangeFunc op ps assign body).wpIn Fence.wide n Tryz.prog Q a w := by
  apply wpIn_rangeFunc
  intro fn hfn
  let rec_ : LoopState → Option Code → Loop := fun st pe => { state := st, pending := pe, fn := fn, tmps := a.tmps, params := ps, assign := assign, body := body, defers := w.heap.size }
  obtain ⟨W1, hW1⟩ : ∃ W1, (w.alloc (.deferred (some []))).alloc (.loop (rec_ .ready none)) = W1 := ⟨_, rfl⟩
  have hi0 : I s0 W1 := hW1 ▸ h0 _
  have hLs : W1.heap[w.heap.size + 1]? = some (.loop (rec_ .ready none)) := by
    have := World.alloc_heap_new (w.alloc (.deferred (some []))) (.loop (rec_ .ready none))
    rw [← hW1]
    rwa [World.size_alloc] at this
  have hDs : W1.heap[w.heap.size]? = some (.deferred (some [])) := by
    rw [← hW1]
    exact (Below.heap_alloc _ _ _ (by simp)).trans (World.alloc_heap_new w _)
  refine ⟨w.heap.size + 1, [{ target := .collected w.heap.size, args := #[] }], W1, { target := .fn (.func gf) lb, args := #[.func (.yield (w.heap.size + 1)) #[] #[]] }, W1, gf,
    #[.func (.yield (w.heap.size + 1)) #[] #[]] ++ lb, W1, by rw [← hW1]; exact run_enterLoop_outer fn a.tmps ps assign body, ?_, fun _ _ => trivial, ?_, fun _ => by omega, ?_⟩
  · simp only [resolve, hop]
    simp [go_sem]
  · simp [invoke, go_sem, eg]
  · have two : ∀ {U : World} {o : Obj}, U.heap[w.heap.size + 1]? = some o → U.heap[w.heap.size]? = some (.deferred (some [])) → ∀ o' : Obj,
        (U.putObj (w.heap.size + 1) o').heap[w.heap.size + 1]? = some o' ∧ (U.putObj (w.heap.size + 1) o').heap[w.heap.size]? = some (.deferred (some [])) := fun hu hd o' =>
      ⟨World.putObj_heap_same (heap_lt hu), (World.putObj_heap_other (by omega)).trans hd⟩
    refine (hseq (w.heap.size + 1) (fun s U => I s U ∧ U.heap[w.heap.size + 1]? = some (.loop (rec_ .ready none)) ∧ U.heap[w.heap.size]? = some (.deferred (some [])))
      (fun U => ∃ c, Ix c U ∧ U.heap[w.heap.size + 1]? = some (.loop (rec_ .done (some c))) ∧ U.heap[w.heap.size]? = some (.deferred (some []))) W1
      (fun s U U' h k => ⟨hI s U U' h.1 k, k.blk h.2.1, k.blk h.2.2⟩) (fun s U h => hR s U h.1) ?_ ⟨hi0, hLs, hDs⟩).mono ?_
    · rintro x s U ⟨hi, hl, hd⟩ hG
      refine ⟨fn, _, assign, body, run_yield hl (hps x), roundIn_of_wpIn hfn (hassign x s U _ hi ?_)⟩
      intro a' U1 k1 hax
      replace hi := hI s U U1 hi k1
      replace hl := k1.blk hl
      replace hd := k1.blk hd
      clear k1
      obtain ⟨U, rfl⟩ : ∃ U, U = U1 := ⟨_, rfl⟩
      refine ⟨_, run_beginRound hl rfl, ?_⟩
      have hb := two hl hd (.loop { rec_ .ready none with state := .busy })
      have hi2 := hIp s U _ (.loop { rec_ .ready none with state := .busy }) hi hl
      refine wpIn_mono (hbody x s a' _ ⟨_, hb.1⟩ hi2 (hAx x a' U _ _ hax hl) hG) ?_
      have fin : ∀ (j : Option Code) (U' : World), (∀ k, k = w.heap.size ∨ k = w.heap.size + 1 → U'.heap[k]? = (U.putObj (w.heap.size + 1) (.loop { rec_ .ready none with state := .busy })).heap[k]?) →
          (Instr.endRound (w.heap.size + 1) j).run Tryz.prog U' = .ok (.bool j.isNone) (U'.putObj (w.heap.size + 1) (.loop (rec_ (if j.isNone then .ready else .done) j))) ∧
          U'.heap[w.heap.size + 1]? = some (.loop { rec_ .ready none with state := .busy }) ∧ U'.heap[w.heap.size]? = some (.deferred (some [])) := fun j U' h =>
        ⟨run_endRound j ((h _ (Or.inr rfl)).trans hb.1), (h _ (Or.inr rfl)).trans hb.1, (h _ (Or.inl rfl)).trans hb.2⟩
      intro e a2 U' hp
      cases e with
      | normal =>
        obtain ⟨hk, s', hN, hi'⟩ := hp
        obtain ⟨r1, r2, r3⟩ := fin none U' hk
        exact ⟨_, _, r1, .inl ⟨rfl, s', hN, hIp s' U' _ _ hi' r2, two r2 r3 _⟩⟩
      | ret =>
        obtain ⟨r1, r2, r3⟩ := fin (some .ret) U' hp.1
        exact ⟨_, _, r1, .inr ⟨rfl, _, hXp _ U' _ _ hp.2 r2, two r2 r3 _⟩⟩
      | exit i =>
        obtain ⟨r1, r2, r3⟩ := fin (some (.exit i)) U' hp.1
        exact ⟨_, _, r1, .inr ⟨rfl, _, hXp _ U' _ _ hp.2 r2, two r2 r3 _⟩⟩
      | goto t =>
        obtain ⟨r1, r2, r3⟩ := fin (some (.goto t)) U' hp.1
        exact ⟨_, _, r1, .inr ⟨rfl, _, hXp _ U' _ _ hp.2 r2, two r2 r3 _⟩⟩
      | panic _ => exact hp.elim
      | outgrown => exact hp.elim
    · rintro e U ⟨⟨v, rfl⟩, h⟩
      rcases h with ⟨s, hE, hi, hl, hd⟩ | ⟨c, hx, hl, hd⟩
      · exact ⟨none, _, run_endLoop hl (by simp [rec_]), hdone s _ hE (hIp s U _ _ hi hl) (two hl hd _).2⟩
      · exact ⟨some c, _, run_endLoop hl (by simp [rec_]), hstop c _ (hXp c U _ _ hx hl) (two hl hd _).2⟩
/-- The same, what follows told once. -/
theorem range_tiedT {n : Nat} {op : Operand} {ps : Array Tmp} {assign body : Code} {Q : Exit → Act → World → Prop} {a : Act} {w : World} (h1 : 2 ≤ n) {gf : Nat} {lb : Array Value}
    (hop : a.eval op = .func (.func gf) #[] lb) (eg : ∀ args w, (callFunc gf args).run Tryz.prog w = .ok (.enter gf args) w)
    {encs : α → Array Value} {Gx : α → σ → Prop} {Nx : α → σ → σ → Prop} {Ex : σ → Prop} {Rx : σ → World → Prop} {s0 : σ} (hseq : SeqTied (n - 1) gf lb encs Gx Nx Ex Rx s0)
    (hps : ∀ x, (encs x).size = ps.size) (Ax : Act → α → Act → World → Prop) (hAx : ∀ x a' V r o, Ax a x a' V → V.heap[w.heap.size + 1]? = some (.loop r) → Ax a x a' (V.putObj (w.heap.size + 1) o)) (I : σ → World → Prop) (Ix : Code → World → Prop) (hR : ∀ s V, I s V → Rx s V)
    (hI : ∀ s V V', I s V → Keeps V V' (fun _ => False) → I s V')
    (hIp : ∀ s V r o, I s V → V.heap[w.heap.size + 1]? = some (.loop r) → I s (V.putObj (w.heap.size + 1) o))
    (hXp : ∀ c V r o, Ix c V → V.heap[w.heap.size + 1]? = some (.loop r) → Ix c (V.putObj (w.heap.size + 1) o))
    (h0 : ∀ r, I s0 ((w.alloc (.deferred (some []))).alloc (.loop r)))
    (T : World → Prop) (tail : ∀ W, T W → W.heap[w.heap.size]? = some (.deferred (some [])) → Q .normal { a with defers := { target := .collected w.heap.size, args := #[] } :: a.defers } W)
    (hassign : ∀ x s W (K : Act → World → Prop), I s W → (∀ a' W', Keeps W W' (fun _ => False) → Ax a x a' W' → K a' W') →
      assign.wpIn (Fence.wide.inRound (w.heap.size + 1)) (n - 1 - 1) Tryz.prog (Exit.then K (fun _ _ _ => False)) { tmps := (ps.zip (encs x)).foldl (fun t (p, v) => t.setIfInBounds p v) a.tmps, defers := [] } W)
    (hbody : ∀ x s a' W, (∃ r, W.heap[w.heap.size + 1]? = some (.loop r)) → I s W → Ax a x a' W → Gx x s → body.wpIn (Fence.wide.inRound (w.heap.size + 1)) (n - 1 - 1) Tryz.prog (TiedPost w.heap.size I Ix (Nx x s) W) a' W)
    (hdone : ∀ s W, Ex s → I s W → T W)
    (hstop : ∀ c W, Ix c W → T W ∧ ∀ a' W', Q .normal a' W' → c.wpIn Fence.wide n Tryz.prog Q a' W') :
    (Code.rangeFunc op ps assign body).wpIn Fence.wide n Tryz.prog Q a w :=
  range_tied h1 hop eg hseq hps Ax hAx I Ix hR hI hIp hXp h0 hassign hbody (fun s W e i d => tail W (hdone s W e i) d) (fun c W hx hd => (hstop c W hx).2 _ _ (tail W (hstop c W hx).1 hd))
end
attribute [local go_sem] Oper.semAt_some
set_option maxRecDepth 100000 in
set_option maxHeartbeats 4000000 in
/-- Order: round s gives the group that is met at step s. -/
theorem order_tied (n : Nat) (hn : 1 ≤ n) (Bg Bh h k : Nat) (hk : k ≤ 13) (hh : h < 18446744073709551616) :
    SeqTied n 108 #[.pointer (some ⟨Bg, 0, none⟩), .pointer (some ⟨Bh, 0, none⟩)] (fun x : Nat => #[.int .i64 (x : Int)]) (fun x s => s < 2 ^ k ∧ x = Pb.metN h (2 ^ k) s) (fun _ s s' => s' = s + 1) (fun s : Nat => s = 2 ^ k)
      (fun _ V => V.heap[Bg]? = some (.cells #[.int .i64 ((2 ^ k : Nat) : Int)] 3) ∧ V.heap[Bh]? = some (.cells #[.int .u64 (h : Int)] 23)) 0 := by
  intro lp J Jx W hJk hJR hY hJ0
  have hro : Fence.wide.round = none := rfl
  have hI := Pb.isGroups_any ((2 ^ k : Nat) : Int) W
  rw [Pb.pwG_pow hk] at hI
  have hm := Pb.met_any h k
  obtain ⟨g1, g2⟩ := Pb.pow_bounds hk
  have hmm : Hid (∀ (i : Nat) (w : World), i < 2 ^ k → Calls Tryz.prog 48 #[.int .u64 (h : Int), .int .i64 ((2 ^ k : Nat) : Int), .int .i64 (i : Int)] w fun e w' => e = .returned (.int .i64 ((Pb.metN h (2 ^ k) i : Nat) : Int)) ∧ w' = w) := fun i w hi => hm i w hk hi hh
  clear hm
  obtain ⟨hg, hb⟩ := hJR _ _ hJ0
  obtain ⟨c1, c2⟩ := Pb.one_cell hg
  obtain ⟨d1, d2⟩ := Pb.one_cell hb
  generalize 2 ^ k = G at *
  refine callsIn_of_wp Tryz.func108 rfl trivial ?_ hro
  simp only [Tryz.ntmps108, List.size_toArray, List.length_cons, List.length_nil, Nat.reduceAdd, Nat.reduceSub, Array.replicate_succ, Array.replicate_zero, List.push_toArray, List.append_toArray, List.nil_append, List.cons_append]
  gi_wp2_with fail
  refine ⟨trivial, (callsIn_wide.2 hI).mono ?_⟩
  rintro e W2 ⟨rfl, rfl⟩
  gi_wp2_with fail
  clear c1 c2 d1 d2 hI hg hb
  gi_loopg [9] G (fun gm v9 wr => ∃ i : Nat, gm = G - i ∧ i ≤ G ∧ v9 = .int .i64 (i : Int) ∧ J i wr)
  case atStart => exact ⟨0, rfl, by omega, rfl, hJ0⟩
  case round =>
    clear hJ0
    obtain ⟨i, rfl, hi, rfl, hJ⟩ := hrel
    obtain ⟨hg, hb⟩ := hJR _ _ hJ
    obtain ⟨c1, c2⟩ := Pb.one_cell hg
    obtain ⟨d1, d2⟩ := Pb.one_cell hb
    by_cases hlt : i < G
    · have hlt' : (i : Int) < (G : Int) := by omega
      have hm := hmm.out i wr hlt
      obtain ⟨fn, tmps, assign, body, hy, hRd⟩ := hY (Pb.metN h G i) i wr hJ ⟨hlt, rfl⟩
      generalize Pb.metN h G i = X at *
      clear hJ hY
      gi_wp2_with fail
      refine ⟨trivial, (callsIn_wide.2 hm).mono ?_⟩
      rintro e W2 ⟨rfl, rfl⟩
      gi_wp2
      refine hRd.mono ?_
      rintro e W4 (⟨rfl, s', hN', hJ4⟩ | ⟨rfl, hJx4⟩)
      · have HJ := hide hJ4
        have HN' := hide hN'
        clear hJ4 hN' hRd hy hm
        gi_wp2_with fail
        gi_roundg (G - (i + 1))
        case measure => omega
        case rel => exact ⟨i + 1, rfl, by omega, rfl, HN'.out ▸ HJ.out⟩
      · have HX := hide hJx4
        clear hJx4 hRd hy hm
        gi_wp2
        refine bodyPost_ret (results_none rfl _ _ _) rfl ?_
        exact ⟨⟨_, rfl⟩, .inr HX.out⟩
    · obtain rfl : i = G := by omega
      have HJ := hide hJ
      clear hJ hY
      gi_wp2_with fail
      go_end0
      exact ⟨⟨_, rfl⟩, .inl ⟨_, rfl, HJ.out⟩⟩
end Go.Proofs.YtmdnknbolgedgaaGreatDoor
/-
  The parts of a hash as numbers.
-/
namespace Go.Proofs.YtmdnknbolgedgaaGreatDoor.Op

def bitN (h : Nat) (d : Int) : Nat := if 0 ≤ d ∧ d < 64 then h / 2 ^ (63 - d.toNat) % 2 else 0
def topN (h : Nat) (d : Int) : Nat := if 1 ≤ d ∧ d ≤ 6 then h / 2 ^ (64 - d.toNat) else 0
/-- The first i bits from the highest on. -/
def headN (h i : Nat) : Nat := h / 2 ^ (64 - i)
theorem bitN_lt (h : Nat) (d : Int) : bitN h d < 2 := by
  unfold bitN
  split
  · exact Nat.mod_lt _ (by decide)
  · decide
theorem headN_zero {h : Nat} (hh : h < 18446744073709551616) : headN h 0 = 0 := by
  unfold headN
  exact Nat.div_eq_of_lt hh
theorem headN_all (h : Nat) : headN h 64 = h := by
  unfold headN
  simp
theorem headN_succ (h i : Nat) (hi : i < 64) : headN h (i + 1) = 2 * headN h i + bitN h (i : Int) := by
  unfold headN bitN
  rw [if_pos ⟨by omega, by omega⟩, Int.toNat_natCast]
  have e : 64 - i = (63 - i) + 1 := by omega
  have e2 : 64 - (i + 1) = 63 - i := by omega
  rw [e2, e, Nat.pow_succ, ← Nat.div_div_eq_div_mul]
  omega
theorem headN_lt (h i : Nat) (hh : h < 18446744073709551616) (hi : i ≤ 64) : headN h i < 2 ^ i := by
  unfold headN
  rw [Nat.div_lt_iff_lt_mul (Nat.two_pow_pos _), ← Nat.pow_add, show i + (64 - i) = 64 by omega]
  exact hh
theorem topN_head (h : Nat) (i : Nat) (hh : h < 18446744073709551616) (hi : i ≤ 6) : topN h (i : Int) = headN h i := by
  unfold topN
  by_cases h0 : i = 0
  · subst h0
    rw [headN_zero hh]
    rfl
  · rw [if_pos ⟨by omega, by omega⟩, Int.toNat_natCast]
    rfl
theorem topN_lt (h : Nat) (d : Int) (hh : h < 18446744073709551616) : topN h d < 64 := by
  unfold topN
  split
  · rename_i hd
    obtain ⟨d1, d6⟩ := hd
    have := headN_lt h d.toNat hh (by omega)
    unfold headN at this
    have h2 : (2 : Nat) ^ d.toNat ≤ 2 ^ 6 := Nat.pow_le_pow_right (by decide) (by omega)
    omega
  · decide
/-- The highest bit dropped i times. -/
def dropN (h i : Nat) : Nat := h * 2 ^ i % 18446744073709551616
theorem dropN_zero {h : Nat} (hh : h < 18446744073709551616) : dropN h 0 = h := by
  unfold dropN
  rw [Nat.pow_zero, Nat.mul_one, Nat.mod_eq_of_lt hh]
theorem dropN_succ (h i : Nat) : dropN h (i + 1) = dropN h i % 9223372036854775808 * 2 := by
  unfold dropN
  rw [Nat.pow_succ, ← Nat.mul_assoc]
  omega
theorem dropN_lt (h i : Nat) : dropN h i < 18446744073709551616 := Nat.mod_lt _ (by decide)
theorem dropN_bit (h i : Nat) (hi : i < 64) : dropN h i / 9223372036854775808 = bitN h (i : Int) := by
  unfold dropN bitN
  rw [if_pos ⟨by omega, by omega⟩, Int.toNat_natCast]
  have e : (18446744073709551616 : Nat) = 9223372036854775808 * 2 := by decide
  rw [e, Nat.mod_mul_right_div_self]
  have e2 : (9223372036854775808 : Nat) = 2 ^ (63 - i) * 2 ^ i := by
    rw [← Nat.pow_add, show 63 - i + i = 63 by omega]
  rw [e2, Nat.mul_div_mul_right _ _ (Nat.two_pow_pos _)]
end Go.Proofs.YtmdnknbolgedgaaGreatDoor.Op
/-
  The parts of a hash: Tag, Home, Top, Bit.
-/
namespace Go.Proofs.YtmdnknbolgedgaaGreatDoor.Op
open Go.RowKit
set_option linter.unusedVariables false

theorem u64_nat {n : Int} (h : (Lit.int .u64 n).wf = true) : ∃ m : Nat, n = (m : Int) ∧ m < 18446744073709551616 := by
  have h2 : 0 ≤ n ∧ n < 18446744073709551616 := by
    have e1 : IntKind.u64.min = 0 := rfl
    have e2 : IntKind.u64.max = 18446744073709551615 := rfl
    simp only [Lit.wf, decide_eq_true_eq, Bool.and_eq_true] at h
    rw [e1, e2] at h
    omega
  exact ⟨n.toNat, by omega, by omega⟩


set_option maxHeartbeats 400000 in
theorem tag_any (h : Nat) (hh : h < 18446744073709551616) (w : World) :
    Calls Tryz.prog 45 #[.int .u64 (h : Int)] w fun e w' => e = .returned (.int .i64 ((h : Int) % 128)) ∧ w' = w := by
  go_enter Tryz.func45, Tryz.ntmps45
  go_wp2_with fail
  go_ret
  exact ⟨rfl, rfl⟩

set_option maxHeartbeats 400000 in
theorem home_any (h : Nat) (hh : h < 18446744073709551616) (w : World) :
    Calls Tryz.prog 72 #[.int .u64 (h : Int)] w fun e w' => e = .returned (.int .u64 ((h : Int) / 128)) ∧ w' = w := by
  go_enter Tryz.func72, Tryz.ntmps72
  go_wp2_with fail
  go_ret
  exact ⟨rfl, rfl⟩
end Go.Proofs.YtmdnknbolgedgaaGreatDoor.Op
