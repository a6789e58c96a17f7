import Derived.Test.YtlgmpnaalifegabWalks18
namespace Go.Proofs.Ytlgmpnaalifegab
open Go.RowKit

theorem Bk.form {B : Nat} {w : World} {g : Nat} {bv : Value} {ps : List Pg} (K : Bk B w g bv ps) : ∃ ao c, bv = .slice ao ps.length c := by
  rcases K.own.2 with ⟨h1, h2⟩ | ⟨x, cap, cur, h1, _⟩
  · exact ⟨none, 0, by rw [h1, h2]⟩
  · exact ⟨_, cap, h1⟩
theorem Bk.notOp {B : Nat} {w : World} {g : Nat} {bv : Value} {ps : List Pg} (K : Bk B w g bv ps) {q : Nat} {c : Array Value} {f : Nat × Nat} (h : w.heap[q]? = some (.cells c 47 f)) : ¬ bv.ownBlock = some q := fun e => by
  obtain ⟨_, cur, hc⟩ := ownsRow_block K.own e
  rw [hc] at h
  injection h with h
  injection h with _ h
  exact absurd h (by decide)
def markOf (n : Nat) : UInt8 := UInt8.ofNat ((17 * n + 5) % 256)
theorem markOf_int (n : Nat) : ((markOf n).toNat : Int) = (17 * (n : Int) + 5) % 256 := by
  unfold markOf
  rw [UInt8.toNat_ofNat_of_lt' (show (17 * n + 5) % 256 < 256 by omega)]
  omega

set_option maxRecDepth 100000 in
set_option maxHeartbeats 2000000 in
theorem once_out (w : World) (B b g : Nat) (bs sp : List UInt8) (bv : Value) (ps : List Pg) (m : MemAt 60 5 w b g bs sp) (K : Bk B w g bv ps) (hg : B ≤ g) (mm A C N : Int) (V : Nat) (ao : Option Addr) (n cap : Nat) (hin : insideB bs.length A N = false) :
    Calls Try.prog 16 #[.pointer (some ⟨b, 0, none⟩), .agg (opCells 8 mm A C N V ao n cap), bv] w fun e w' => OncePost B w b ps e w' := by
  have k1 : Keeps w (w.alloc (.cells (opCells 8 mm A C N V ao n cap) 47)) (fun _ => False) := (Keeps.refl _ _).alloc _
  have m1 := m.keeps k1 id id
  have K1 := K.keepsNone k1
  have hend : OncePost B w b ps (.returned (.tuple #[bv, .bool true])) (w.alloc (.cells (opCells 8 mm A C N V ao n cap) 47)).drew :=
    ⟨bv, g, bs, sp, ps, rfl, hg, m1.drew, K1.keepsNone (Keeps.refl _ _).drew, (k1.mono (fun _ _ x => x.elim)).drew, Nat.le_refl _, by omega⟩
  have hnew := heap_alloc_new w (.cells (opCells 8 mm A C N V ao n cap) 47)
  have hcA : (w.alloc (.cells (opCells 8 mm A C N V ao n cap) 47)).cell? ⟨w.heap.size, 2, none⟩ = some (.int .i64 A) := by simp only [World.cell?, hnew]; simp [opCells]
  have hcN : (w.alloc (.cells (opCells 8 mm A C N V ao n cap) 47)).cell? ⟨w.heap.size, 4, none⟩ = some (.int .i64 N) := by simp only [World.cell?, hnew]; simp [opCells]
  have hl := m.hmax
  have hrd := read_no _ b g bs sp m1 A N hin
  have hlen := len_any _ b g bs sp m1.drew
  have hli := fun W => lawin_no W bs.length (by omega) A N hin
  have hnil := fun W => Lib.run_eql_slice_nil (P := Try.prog) W 30 5 none 0 0 0 0 Try.underlying30
  clear hnew k1 m K K1 m1 hin
  unfold opCells at *
  go_enter Try.func16, Try.ntmps16
  go_wp2_with fail
  refine hrd.mono ?_
  rintro e w' ⟨rfl, hw⟩
  subst hw
  clear hrd
  go_wp2_with fail
  go_region_held3 (fun w' => w'.cell? ⟨w.heap.size, 2, none⟩ = some (.int .i64 A) ∧ w'.cell? ⟨w.heap.size, 4, none⟩ = some (.int .i64 N)) (first | exact ⟨hcA, hcN⟩)
    (first
      | (go_at_call 17; refine hlen.mono ?_; rintro e w' ⟨rfl, hw⟩; subst hw)
      | (go_at_call 10; refine (hli _).mono ?_; rintro e w' ⟨rfl, hw⟩; subst hw))
  all_goals clear hlen hli
  all_goals go_wp2
  all_goals go_ret2
  all_goals exact hend
end Go.Proofs.Ytlgmpnaalifegab
