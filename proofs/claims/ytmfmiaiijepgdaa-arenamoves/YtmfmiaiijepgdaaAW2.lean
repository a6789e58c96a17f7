import Derived.Test.YtmfmiaiijepgdaaAAt
import Derived.Test.YtmfmiaiijepgdaaAW1
namespace Go.Proofs.Ytmfmiaiijepgdaa
open Go.RowKit

theorem Try.zeroI (w : World) : (zeroValue 3).run Try.prog w = .ok (.int .i64 0) w := Try.zeroValue3 w
theorem Try.zeroP (w : World) : (zeroValue 100).run Try.prog w = .ok (.pointer none) w := Try.zeroValue100 w

set_option maxHeartbeats 400000 in
theorem end_any {w : World} {p : Nat} {c : AR} {d : AD} (h : ArenaAt w p c d) :
    Calls Try.prog 15 #[.pointer (some ⟨p, 0, none⟩)] w fun e w' => e = .returned (.int .i64 (d.bs.length : Int)) ∧ w' = w := by
  have c2 := h.cell2
  have hl := len_any w c.b c.g _ _ h.mem
  clear h
  go_enter Try.func15, Try.ntmps15
  go_wp2_with fail
  refine hl.mono ?_
  rintro e w' ⟨rfl, rfl⟩
  go_wp2_with fail
  go_ret
  exact ⟨rfl, rfl⟩

set_option maxHeartbeats 400000 in
theorem live_any {w : World} {p : Nat} {c : AR} {d : AD} (h : ArenaAt w p c d) :
    Calls Try.prog 16 #[.pointer (some ⟨p, 0, none⟩)] w fun e w' => e = .returned (.int .i64 (d.used : Int)) ∧ w' = w := by
  have c2 := h.cell1
  clear h
  go_enter Try.func16, Try.ntmps16
  go_wp2
  go_ret
  exact ⟨rfl, rfl⟩

/-- The block is among the live ones. -/
def AD.entered (d : AD) (off n : Nat) : AD := { d with used := d.used + n, lv := upd d.lv off (some (n : Int)) }
def EnterPost (w : World) (p : Nat) (c : AR) (d : AD) (off n : Nat) (e : Ending) (w' : World) : Prop :=
  e = .returned (.tuple #[]) ∧ (d.L.length + 0 = d.L.length → True) ∧ Keeps w w' (fun k => k = p ∨ k = c.bl) ∧
    w'.heap[p]? = some (.cells #[.int .i64 (d.limit : Int), .int .i64 ((d.used + n : Nat) : Int), .pointer (some ⟨c.b, 0, none⟩), c.v, .map (some c.bl), .map (some c.bf)] 80) ∧ MapTo Try.prog cInt w' c.bl (c.nl + 1) (upd d.lv off (some (n : Int)))

set_option maxHeartbeats 1000000 in
theorem enter_any {w : World} {p : Nat} {c : AR} {d : AD} (h : ArenaAt w p c d) (off n : Nat) (ho : off ≤ 134217728) (hn : n ≤ 134217728) (hu : d.used ≤ 134217728) (hm : c.nl < 4294967296) :
    Calls Try.prog 55 #[.pointer (some ⟨p, 0, none⟩), .int .i64 (off : Int), .int .i64 (n : Int)] w fun e w' => EnterPost w p c d off n e w' := by
  have c4 := h.cell4
  obtain ⟨w1, hst, hl1, k1⟩ := h.live.store (v := .int .i64 (n : Int)) (a := (n : Int)) Try.underlying3 Try.underlying77 (by unfold maxLen; omega) (x := (off : Int)) (fitsI_mk (by omega) (by omega)) (rdr_int _)
  have h1 : w1.heap[p]? = w.heap[p]? := k1.block p (heap_lt h.hp) h.p_bl
  have hp1 := h1.trans h.hp
  have c1 : w1.cell? ⟨p, 1, none⟩ = some (.int .i64 (d.used : Int)) := by simp [World.cell?, hp1]
  have f1 : w1.frozen? ⟨p, 1, none⟩ = false := by simp [World.frozen?, hp1]
  have hfin : EnterPost w p c d off n (.returned (.tuple #[])) (w1.setCell ⟨p, 1, none⟩ (.int .i64 ((d.used : Int) + (n : Int)))) := by
    refine ⟨rfl, fun _ => trivial, ?_, ?_, ?_⟩
    · exact (k1.mono (S1 := fun k => k = p ∨ k = c.bl) (fun _ _ e => Or.inr e)).setCell _ (fun _ => Or.inl rfl) _
    · have hlt := heap_lt hp1
      have hv := (Array.getElem?_eq_some_iff.1 hp1).2
      simp only [World.setCell, Array.getElem?_modify]
      simp [hlt, hv]
    · exact hl1.keeps ((Keeps.refl _ (fun k => k = p)).setCell _ (fun _ => rfl) _) h.p_bl.symm
  clear hl1 k1 h1 hp1 h
  generalize EnterPost w p c d off n = Q at *
  go_enter Try.func55, Try.ntmps55
  go_wp2
  go_end0
  exact hfin
end Go.Proofs.Ytmfmiaiijepgdaa
