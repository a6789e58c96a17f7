import Derived.Test.YtlgmpnaalifegabWalks17
import Derived.Deep.RegionHeld3
namespace Go.Proofs.Ytlgmpnaalifegab
open Go.RowKit

def opCells (kd mm A C N : Int) (V : Nat) (ao : Option Addr) (n cap : Nat) : Array Value :=
  #[.int .i64 kd, .int .i64 mm, .int .i64 A, .int .i64 C, .int .i64 N, .int .u64 (V : Int), .slice ao n cap]
def OncePost (B : Nat) (w : World) (b : Nat) (ps : List Pg) (e : Ending) (w' : World) : Prop :=
  ∃ bv' g' bs' sp' ps', e = .returned (.tuple #[bv', .bool true]) ∧ B ≤ g' ∧ MemAt 60 5 w' b g' bs' sp' ∧ Bk B w' g' bv' ps' ∧ Keeps w w' (fun k => B ≤ k) ∧ ps.length ≤ ps'.length ∧ ps'.length ≤ ps.length + 2

/-- Behind a call whose answer is not looked at. -/
theorem once_end {B : Nat} {w w1 : World} {b g : Nat} {bv : Value} {ps : List Pg} {bs sp : List UInt8} (hB : B ≤ w.heap.size) (hb : B ≤ b) (hg : B ≤ g) (k1 : Keeps w w1 (fun k => B ≤ k)) (m : MemAt 60 5 w1 b g bs sp) (K : Bk B w1 g bv ps) {e : Ending} {w' : World} (h : AnyPost w1 b g e w') :
    OncePost B w b ps (.returned (.tuple #[bv, .bool true])) w' := by
  obtain ⟨x, g', bs', sp', _, m', hg', k'⟩ := h
  have hs := k1.size
  refine ⟨bv, g', bs', sp', ps, rfl, by rcases hg' with e | e <;> omega, m', K.keeps m k' hg', k1.trans k' (fun i _ e => by omega), Nat.le_refl _, by omega⟩

set_option maxHeartbeats 2000000 in
theorem once_grow (w : World) (B b g : Nat) (bs sp : List UInt8) (bv : Value) (ps : List Pg) (m : MemAt 60 5 w b g bs sp) (K : Bk B w g bv ps) (hB : B ≤ w.heap.size) (hb : B ≤ b) (hg : B ≤ g) (mm A C N : Int) (V : Nat) (ao : Option Addr) (n cap : Nat) :
    Calls Try.prog 16 #[.pointer (some ⟨b, 0, none⟩), .agg (opCells 2 mm A C N V ao n cap), bv] w fun e w' => OncePost B w b ps e w' := by
  have k1 : Keeps w (w.alloc (.cells (opCells 2 mm A C N V ao n cap) 47)) (fun _ => False) := (Keeps.refl _ _).alloc _
  have m1 := m.keeps k1 id id
  have K1 := K.keepsNone k1
  have hgr := grow_any _ b g bs sp m1 A
  unfold opCells at *
  go_enter Try.func16, Try.ntmps16
  go_wp2_with fail
  refine hgr.mono ?_
  rintro e w' hp
  have hend := once_end hB hb hg (k1.mono (fun _ _ x => x.elim)) m1 K1 hp
  obtain ⟨x, _, _, _, rfl, _⟩ := hp
  clear hgr m m1 K K1 k1
  go_wp2_with fail
  go_ret2
  exact hend

set_option maxHeartbeats 2000000 in
theorem once_store (w : World) (B b g : Nat) (bs sp : List UInt8) (bv : Value) (ps : List Pg) (m : MemAt 60 5 w b g bs sp) (K : Bk B w g bv ps) (hB : B ≤ w.heap.size) (hb : B ≤ b) (hg : B ≤ g) (mm A C N : Int) (V : Nat) (ao : Option Addr) (n cap : Nat) :
    Calls Try.prog 16 #[.pointer (some ⟨b, 0, none⟩), .agg (opCells 4 mm A C N V ao n cap), bv] w fun e w' => OncePost B w b ps e w' := by
  have k1 : Keeps w (w.alloc (.cells (opCells 4 mm A C N V ao n cap) 47)) (fun _ => False) := (Keeps.refl _ _).alloc _
  have m1 := m.keeps k1 id id
  have K1 := K.keepsNone k1
  have hgr := store_any _ b g bs sp m1 A N V
  unfold opCells at *
  go_enter Try.func16, Try.ntmps16
  go_wp2_with fail
  refine hgr.mono ?_
  rintro e w' hp
  have hend := once_end hB hb hg (k1.mono (fun _ _ x => x.elim)) m1 K1 hp
  obtain ⟨x, _, _, _, rfl, _⟩ := hp
  clear hgr m m1 K K1 k1
  go_wp2_with fail
  go_ret2
  exact hend

set_option maxHeartbeats 2000000 in
theorem once_fill (w : World) (B b g : Nat) (bs sp : List UInt8) (bv : Value) (ps : List Pg) (m : MemAt 60 5 w b g bs sp) (K : Bk B w g bv ps) (hB : B ≤ w.heap.size) (hb : B ≤ b) (hg : B ≤ g) (mm A C N : Int) (V : Nat) (ao : Option Addr) (n cap : Nat) :
    Calls Try.prog 16 #[.pointer (some ⟨b, 0, none⟩), .agg (opCells 5 mm A C N V ao n cap), bv] w fun e w' => OncePost B w b ps e w' := by
  have k1 : Keeps w (w.alloc (.cells (opCells 5 mm A C N V ao n cap) 47)) (fun _ => False) := (Keeps.refl _ _).alloc _
  have m1 := m.keeps k1 id id
  have K1 := K.keepsNone k1
  have hgr := fill_any _ b g bs sp m1 A N (UInt8.ofNat (V % 256))
  rw [show (((UInt8.ofNat (V % 256)).toNat : Nat) : Int) = (V : Int) % 256 from by rw [UInt8.toNat_ofNat_of_lt' (show V % 256 < 256 by omega)]; omega] at hgr
  unfold opCells at *
  go_enter Try.func16, Try.ntmps16
  go_wp2_with fail
  refine hgr.mono ?_
  rintro e w' hp
  have hend := once_end hB hb hg (k1.mono (fun _ _ x => x.elim)) m1 K1 hp
  obtain ⟨x, _, _, _, rfl, _⟩ := hp
  clear hgr m m1 K K1 k1
  go_wp2_with fail
  go_ret2
  exact hend

set_option maxHeartbeats 2000000 in
theorem once_copy (w : World) (B b g : Nat) (bs sp : List UInt8) (bv : Value) (ps : List Pg) (m : MemAt 60 5 w b g bs sp) (K : Bk B w g bv ps) (hB : B ≤ w.heap.size) (hb : B ≤ b) (hg : B ≤ g) (mm A C N : Int) (V : Nat) (ao : Option Addr) (n cap : Nat) :
    Calls Try.prog 16 #[.pointer (some ⟨b, 0, none⟩), .agg (opCells 6 mm A C N V ao n cap), bv] w fun e w' => OncePost B w b ps e w' := by
  have k1 : Keeps w (w.alloc (.cells (opCells 6 mm A C N V ao n cap) 47)) (fun _ => False) := (Keeps.refl _ _).alloc _
  have m1 := m.keeps k1 id id
  have K1 := K.keepsNone k1
  have hgr := copy_any _ b g bs sp m1 A C N
  unfold opCells at *
  go_enter Try.func16, Try.ntmps16
  go_wp2_with fail
  refine hgr.mono ?_
  rintro e w' hp
  have hend := once_end hB hb hg (k1.mono (fun _ _ x => x.elim)) m1 K1 hp
  obtain ⟨x, _, _, _, rfl, _⟩ := hp
  clear hgr m m1 K K1 k1
  go_wp2_with fail
  go_ret2
  exact hend

set_option maxHeartbeats 2000000 in
theorem once_other (w : World) (B b g : Nat) (bs sp : List UInt8) (bv : Value) (ps : List Pg) (m : MemAt 60 5 w b g bs sp) (K : Bk B w g bv ps) (_hB : B ≤ w.heap.size) (_hb : B ≤ b) (hg : B ≤ g) (kd : Int) (h2 : kd ≠ 2) (h4 : kd ≠ 4) (h5 : kd ≠ 5) (h6 : kd ≠ 6) (h8 : kd ≠ 8) (h9 : kd ≠ 9) (mm A C N : Int) (V : Nat) (ao : Option Addr) (n cap : Nat) :
    Calls Try.prog 16 #[.pointer (some ⟨b, 0, none⟩), .agg (opCells kd mm A C N V ao n cap), bv] w fun e w' => OncePost B w b ps e w' := by
  have k1 : Keeps w (w.alloc (.cells (opCells kd mm A C N V ao n cap) 47)) (fun _ => False) := (Keeps.refl _ _).alloc _
  have m1 := m.keeps k1 id id
  have K1 := K.keepsNone k1
  have hend : OncePost B w b ps (.returned (.tuple #[bv, .bool true])) (w.alloc (.cells (opCells kd mm A C N V ao n cap) 47)) := ⟨bv, g, bs, sp, ps, rfl, hg, m1, K1, k1.mono (fun _ _ x => x.elim), Nat.le_refl _, by omega⟩
  have b2 : (kd == 2) = false := beq_eq_false_iff_ne.2 h2
  have b4 : (kd == 4) = false := beq_eq_false_iff_ne.2 h4
  have b5 : (kd == 5) = false := beq_eq_false_iff_ne.2 h5
  have b6 : (kd == 6) = false := beq_eq_false_iff_ne.2 h6
  have b8 : (kd == 8) = false := beq_eq_false_iff_ne.2 h8
  have b9 : (kd == 9) = false := beq_eq_false_iff_ne.2 h9
  unfold opCells at *
  clear h2 h4 h5 h6 h8 h9 m m1 K K1 k1
  go_enter Try.func16, Try.ntmps16
  go_wp2_with fail
  go_ret2
  exact hend

set_option maxRecDepth 100000 in
set_option maxHeartbeats 2000000 in
theorem once_write (w : World) (B b g : Nat) (bs sp : List UInt8) (bv : Value) (ps : List Pg) (m : MemAt 60 5 w b g bs sp) (K : Bk B w g bv ps) (hB : B ≤ w.heap.size) (hb : B ≤ b) (hg : B ≤ g) (mm A C N : Int) (V : Nat) (ao : Option Addr) (ts : List ByteArray) (cap : Nat) (hts : StrsAt w B ao ts) (hn : ts.length ≤ 1048576) (hz : ∀ t ∈ ts, t.size ≤ 1048576) :
    Calls Try.prog 16 #[.pointer (some ⟨b, 0, none⟩), .agg (opCells 9 mm A C N V ao ts.length cap), bv] w fun e w' => OncePost B w b ps e w' := by
  have k1 : Keeps w (w.alloc (.cells (opCells 9 mm A C N V ao ts.length cap) 47)) (fun _ => False) := (Keeps.refl _ _).alloc _
  have m1 := m.keeps k1 id id
  have K1 := K.keepsNone k1
  have hs1 : StrsAt (w.alloc (.cells (opCells 9 mm A C N V ao ts.length cap) 47)) B ao ts := hts.keeps hB (k1.mono (fun _ _ x => x.elim))
  have hby := bytes_any (w.alloc (.cells (opCells 9 mm A C N V ao ts.length cap) 47)).drew ao cap ts (StrsAt.mono (B := B) hs1 (by have := k1.size; exact Nat.le_trans hB this)) hn hz
  have hbl := bytesOf_length ts
  generalize hW : w.alloc (.cells (opCells 9 mm A C N V ao ts.length cap) 47) = W at *
  have hsz : W.heap.size = w.heap.size + 1 := by rw [← hW]; simp
  have hnew : W.heap[w.heap.size]? = some (.cells (opCells 9 mm A C N V ao ts.length cap) 47) := by rw [← hW]; exact heap_alloc_new _ _
  have hcA : W.cell? ⟨w.heap.size, 2, none⟩ = some (.int .i64 A) := by simp [World.cell?, hnew, opCells]
  have hcP : W.cell? ⟨w.heap.size, 6, none⟩ = some (.slice ao ts.length cap) := by simp [World.cell?, hnew, opCells]
  have HBL : Hid ((bytesOf ts).length = ts.length) := hbl
  have HSZ : Hid (W.heap.size = w.heap.size + 1) := hsz
  clear hbl hts hs1 hz hnew hsz
  have hbB : b < W.heap.size := heap_lt m1.hb
  have hgB : g < W.heap.size := heap_lt m1.hg
  have hbw : b < w.heap.size := heap_lt m.hb
  have hgw : g < w.heap.size := heap_lt m.hg
  subst hW
  unfold opCells at *
  go_enter Try.func16, Try.ntmps16
  go_wp2_with fail
  go_region_held3 (fun w' => w'.cell? ⟨w.heap.size, 2, none⟩ = some (.int .i64 A) ∧ w'.cell? ⟨w.heap.size, 6, none⟩ = some (.slice ao ts.length cap)) (first | exact ⟨hcA, hcP⟩ | exact ⟨hcA2, hcP2⟩ | exact ⟨hcA3, hcP3⟩)
    (first
      | (go_at_call 9; refine hby.mono ?_; rintro e w2 ⟨gl, cl, rfl, hps, k2⟩; have hcA2 := (World.cell?_of_block (a := ⟨w.heap.size, 2, none⟩) (k2.block w.heap.size (by have := HSZ.out; show w.heap.size < _; simp) (by have := HSZ.out; simp))).trans hcA; have hcP2 := (World.cell?_of_block (a := ⟨w.heap.size, 6, none⟩) (k2.block w.heap.size (by have := HSZ.out; show w.heap.size < _; simp) (by have := HSZ.out; simp))).trans hcP; have m2 := m1.drew.keeps k2 (by have := hbB; exact Nat.not_le.2 hbB) (Nat.not_le.2 hgB))
      | (go_at_call 8; refine (write_any _ b g gl cl bs sp (bytesOf ts) m2 A (by rw [HBL.out]; omega) (hps g hgB)).mono ?_; rintro e w3 ⟨x, g', bs', sp', rfl, m3, hg3, k3⟩; have hcA3 := (World.cell?_of_block (a := ⟨w.heap.size, 2, none⟩) (k3.block w.heap.size (Nat.lt_of_lt_of_le (by simp) k2.size) (by omega))).trans hcA2; have hcP3 := (World.cell?_of_block (a := ⟨w.heap.size, 6, none⟩) (k3.block w.heap.size (Nat.lt_of_lt_of_le (by simp) k2.size) (by omega))).trans hcP2))
  all_goals have k2' := k2.mono (S1 := fun _ => False) (fun i hi x => absurd hi (Nat.not_lt.2 x))
  all_goals have kw := (k1.drew.trans k2' (fun _ _ x => x)).mono (S1 := fun k => B ≤ k) (fun _ _ x => x.elim)
  all_goals have hend := once_end hB hb hg kw m2 ((K1.keepsNone (Keeps.refl _ _).drew).keepsNone k2') ⟨x, g', bs', sp', rfl, m3, hg3, k3⟩
  all_goals clear hby hps m m1 m2 m3 K K1 k1 k2 k2' k3 kw hcA hcP hcA2 hcP2 hcA3 hcP3
  all_goals go_wp2
  all_goals go_ret2
  all_goals exact hend

end Go.Proofs.Ytlgmpnaalifegab
