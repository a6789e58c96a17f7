import Derived.Test.YtlgmpnaalifegabWalks19
namespace Go.Proofs.Ytlgmpnaalifegab
open Go.RowKit

def OnceIn (B : Nat) (w : World) (b : Nat) (ps : List Pg) (e : Ending) (w' : World) : Prop :=
  ∃ bv' g' bs' sp' ps', e = .returned (.tuple #[bv', .bool true]) ∧ B ≤ g' ∧ MemAt 60 5 w' b g' bs' sp' ∧ Bk B w' g' bv' ps' ∧ Keeps w w' (fun k => B ≤ k) ∧ ps'.length = ps.length + 2
theorem OnceIn.post {B : Nat} {w : World} {b : Nat} {ps : List Pg} {e : Ending} {w' : World} (h : OnceIn B w b ps e w') : OncePost B w b ps e w' := by
  obtain ⟨bv', g', bs', sp', ps', h1, h2, h3, h4, h5, h6⟩ := h
  exact ⟨bv', g', bs', sp', ps', h1, h2, h3, h4, h5, by omega, by omega⟩

set_option maxRecDepth 100000 in
set_option maxHeartbeats 4000000 in
theorem once_in (w : World) (B b g : Nat) (bs sp : List UInt8) (bv : Value) (ps : List Pg) (m : MemAt 60 5 w b g bs sp) (K : Bk B w g bv ps) (hB : B ≤ w.heap.size) (hg : B ≤ g) (hpl : ps.length ≤ 16777216) (mm C : Int) (o n : Nat) (V : Nat) (ao : Option Addr) (np cap : Nat) (hin : o + n ≤ bs.length) :
    Calls Try.prog 16 #[.pointer (some ⟨b, 0, none⟩), .agg (opCells 8 mm (o : Int) C (n : Int) V ao np cap), bv] w fun e w' => OnceIn B w b ps e w' := by
  have k1 : Keeps w (w.alloc (.cells (opCells 8 mm (o : Int) C (n : Int) V ao np cap) 47)) (fun _ => False) := (Keeps.refl _ _).alloc _
  have m1 := m.keeps k1 id id
  have K1 := K.keepsNone k1
  have hnew := heap_alloc_new w (.cells (opCells 8 mm (o : Int) C (n : Int) V ao np cap) 47)
  have opc : ∀ w' : World, w'.heap[w.heap.size]? = some (.cells (opCells 8 mm (o : Int) C (n : Int) V ao np cap) 47) → w'.cell? ⟨w.heap.size, 2, none⟩ = some (.int .i64 (o : Int)) ∧ w'.cell? ⟨w.heap.size, 4, none⟩ = some (.int .i64 (n : Int)) := fun w' h => by
    simp only [World.cell?, h]
    simp [opCells]
  have hc1 := opc _ hnew
  have hl := m.hmax
  have hrd := read_yes _ b g bs sp m1 o n hin
  have hxl : ((bs.drop o).take n).length = n := by simp; omega
  have hbw : b < w.heap.size := heap_lt m.hb
  have hgw : g < w.heap.size := heap_lt m.hg
  obtain ⟨ab, cb, rfl⟩ := K.form
  clear m K
  generalize hW : w.alloc (.cells (opCells 8 mm (o : Int) C (n : Int) V ao np cap) 47) = W at *
  have hsz : w.heap.size < W.heap.size := heap_lt hnew
  obtain ⟨hcA, hcN⟩ := hc1
  have OPC : Hid (∀ w' : World, w'.heap[w.heap.size]? = some (.cells (opCells 8 mm (o : Int) C (n : Int) V ao np cap) 47) → w'.cell? ⟨w.heap.size, 2, none⟩ = some (.int .i64 (o : Int)) ∧ w'.cell? ⟨w.heap.size, 4, none⟩ = some (.int .i64 (n : Int))) := opc
  have HX : Hid (((bs.drop o).take n).length = n) := hxl
  have HN : Hid (W.heap[w.heap.size]? = some (.cells (opCells 8 mm (o : Int) C (n : Int) V ao np cap) 47)) := hnew
  have HW : Hid (w.alloc (.cells #[.int .i64 8, .int .i64 mm, .int .i64 (o : Int), .int .i64 C, .int .i64 (n : Int), .int .u64 (V : Int), .slice ao np cap] 47) = W) := hW
  clear opc hxl hnew hW
  generalize hx : (bs.drop o).take n = x at *
  unfold opCells
  go_enter Try.func16, Try.ntmps16
  go_wp2_with fail
  rw [HW.out]
  refine hrd.mono ?_
  rintro e w2 ⟨l, hl0, rfl, hrow, k2⟩
  clear hrd
  rw [hx] at hrow
  have m2 := m1.keeps k2 id id
  have hop2 := (k2.block _ hsz id).trans HN.out
  obtain ⟨hcA2, hcN2⟩ := OPC.out w2 hop2
  have hlen := len_any _ b g bs sp m2.drew
  have hli := fun W => lawin_yes W bs.length (by omega) o n (insideB_mk hin)
  clear hcA hcN
  go_wp2_with fail
  go_region_held3 (fun w' => w'.cell? ⟨w.heap.size, 2, none⟩ = some (.int .i64 (o : Int)) ∧ w'.cell? ⟨w.heap.size, 4, none⟩ = some (.int .i64 (n : Int))) (first | exact ⟨hcA2, hcN2⟩)
    (first
      | (go_at_call 17; refine hlen.mono ?_; rintro e w' ⟨rfl, hw⟩; subst hw)
      | (go_at_call 10; refine (hli _).mono ?_; rintro e w' ⟨rfl, hw⟩; subst hw))
  clear hlen hli hcA2
  have hn27 : n ≤ 134217728 := by omega
  have hsx : x = (strOf x).data.toList := by simp [strOf]
  have HSX : Hid (x = (strOf x).data.toList) := hsx
  clear hsx
  have t1 := row_text (w := w2.drew) (h := l) (n := n) (c := n) (y := []) (s := strOf x) (by rw [List.append_nil]; exact hrow) HX.out HSX.out
  have tu := turned_any w2.drew l n x hrow HX.out hn27 (markOf ps.length)
  rw [markOf_int] at tu
  generalize strOf x = S at *
  go_wp2_with fail
  refine tu.mono ?_
  rintro e w3 ⟨a1, a2, a3, c1, c2, c3, rfl, l1, l2, l3, pg, k3⟩
  clear tu t1
  have h2s : W.heap.size ≤ w2.drew.heap.size := k2.size
  have kW3 : Keeps W w3 (fun _ => False) := (k2.drew).trans k3 (fun i hi e => by omega)
  have m3 := m1.keeps kW3 id id
  have K3 := K1.keepsNone kW3
  have hop3 := (kW3.block _ hsz id).trans HN.out
  obtain ⟨w4, g4, c4, happ, m4, K4, k4, hown4⟩ := book_append K3 m3 ⟨n, markOf ps.length, l, a1, a2, a3, c1, c2, c3⟩ ⟨hn27, pg⟩ ⟨show l ≠ g by omega, show a1 ≠ g by omega, show a2 ≠ g by omega, show a3 ≠ g by omega⟩ (by omega) (by have := kW3.size; omega)
  have hop4 := (k4.block _ (heap_lt hop3) (K3.notOp hop3)).trans hop3
  obtain ⟨hcA4, hcN4⟩ := OPC.out w4 hop4
  have kW4 : Keeps W w4 (fun k => B ≤ k) := (kW3.mono (fun _ _ x => x.elim)).trans k4 (fun i _ e => hown4 i e)
  clear m1 m2 m3 K1 K3 k2 k3 kW3 hrow pg l1 l2 l3 h2s k4 hown4 hop2 hop3 hcN2
  simp only [pageVal] at happ ⊢
  have hrd := read_yes _ b g bs sp m4 o n hin
  go_wp2_with (first | (at_builtin; have _t := happ; refine wpList_append_run _ rfl (.tmp 96) (.tmp 104) 42 rfl rfl rfl happ ?_; clear happ))
  refine hrd.mono ?_
  rintro e w5 ⟨l5, hl5, rfl, hrow5, k5⟩
  clear hrd hcA4 hcN4
  rw [hx] at hrow5
  have hlps : (ps ++ [(⟨n, markOf ps.length, l, a1, a2, a3, c1, c2, c3⟩ : Pg)]).length = ps.length + 1 := by simp
  have t5 := row_text (w := w5) (h := l5) (n := n) (c := n) (y := []) (s := S) (by rw [List.append_nil]; exact hrow5) HX.out HSX.out
  have tu := turned_any w5 l5 n x hrow5 HX.out hn27 (markOf (ps.length + 1))
  rw [markOf_int] at tu
  go_wp2_with fail
  rw [show (17 * ((ps.length : Int) + 1) + 5) % 256 = (17 * (((ps.length + 1 : Nat)) : Int) + 5) % 256 from by omega]
  refine tu.mono ?_
  rintro e w6 ⟨d1, d2, d3, e1, e2, e3, rfl, l1, l2, l3, pg, k6⟩
  clear tu t5
  have hgw4 : g < w4.heap.size := heap_lt m4.hg
  have h5s : w4.heap.size ≤ w5.heap.size := k5.size
  have k46 : Keeps w4 w6 (fun _ => False) := k5.trans k6 (fun i hi e => by omega)
  have m6 := m4.keeps k46 id id
  have K6 := K4.keepsNone k46
  have hop6 := (k46.block _ (heap_lt hop4) id).trans hop4
  obtain ⟨w7, g7, c7, happ, m7, K7, k7, hown7⟩ := book_append K6 m6 ⟨n, markOf (ps.length + 1), l5, d1, d2, d3, e1, e2, e3⟩ ⟨hn27, pg⟩ ⟨show l5 ≠ g by omega, show d1 ≠ g by omega, show d2 ≠ g by omega, show d3 ≠ g by omega⟩ (by rw [hlps]; omega) (by have := k46.size; have := kW4.size; omega)
  have hop7 := (k7.block _ (heap_lt hop6) (K6.notOp hop6)).trans hop6
  obtain ⟨hcA7, hcN7⟩ := OPC.out w7 hop7
  have kW7 : Keeps W w7 (fun k => B ≤ k) := (kW4.trans k46 (fun _ _ x => x.elim)).trans k7 (fun i _ e => hown7 i e)
  clear m4 m6 K4 K6 k5 k6 k46 kW4 hrow5 pg l1 l2 l3 h5s k7 hown7 hop4 hop6 hgw4
  rw [hlps] at happ K7
  simp only [pageVal] at happ ⊢
  have hrd := read_yes _ b g bs sp m7 o n hin
  go_wp2_with (first | (at_builtin; have _t := happ; refine wpList_append_run _ rfl (.tmp 124) (.tmp 132) 42 rfl rfl rfl happ ?_; clear happ))
  refine hrd.mono ?_
  rintro e w8 ⟨l8, hl8, rfl, hrow8, k8⟩
  clear hrd hcA7 hcN7
  rw [hx] at hrow8
  have t8 : ∀ nq, (convert 30 9 (.slice (some ⟨l8, 0, none⟩) n n)).run Try.prog (w8.drewN nq) = .ok (.string S) (w8.drewN nq) := fun nq => row_text (w := w8.drewN nq) (h := l8) (n := n) (c := n) (y := []) (s := S) (by rw [List.append_nil]; exact hrow8) HX.out HSX.out
  have m8 := m7.keeps k8 id id
  have K8 := K7.keepsNone k8
  have kW8 : Keeps W w8 (fun k => B ≤ k) := kW7.trans k8 (fun _ _ x => x.elim)
  have hend : ∀ nq, OnceIn B w b ps (.returned (.tuple #[.slice (some ⟨g7, 0, none⟩) (ps.length + 1 + 1) c7, .bool true])) (w8.drewN nq) := fun nq =>
    ⟨_, g, bs, sp, _, rfl, hg, m8.drewN nq, K8.keepsNone ((Keeps.refl _ _).drewN nq), ((k1.mono (fun _ _ x => x.elim)).trans kW8 (fun _ _ x => x)).drewN nq, by simp⟩
  clear m7 K7 m8 K8 k8 kW7 kW8 k1 hrow8
  go_wp2_with fail
  go_quiet (fail)
  go_wp2_with fail
  go_ret2
  exact hend _
end Go.Proofs.Ytlgmpnaalifegab
