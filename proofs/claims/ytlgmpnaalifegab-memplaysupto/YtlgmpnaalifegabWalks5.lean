import Derived.Test.YtlgmpnaalifegabWalks4
namespace Go.Proofs.Ytlgmpnaalifegab
open Go.RowKit

/-- The byte at a place; -1: there is none. -/
def atVal (bs : List UInt8) (p : Int) : Int := if 0 ≤ p then (match bs[p.toNat]? with | some x => (x.toNat : Int) | none => -1) else -1
theorem atVal_in (bs : List UInt8) (q : Nat) (h : q < bs.length) : atVal bs (q : Int) = (bs[q].toNat : Int) := by
  simp [atVal, h]
theorem atVal_out (bs : List UInt8) (p : Int) (h : p < 0 ∨ (bs.length : Int) ≤ p) : atVal bs p = -1 := by
  unfold atVal
  by_cases h0 : 0 ≤ p
  · rw [if_pos h0, List.getElem?_eq_none (by omega)]
  · rw [if_neg h0]

def AtPost (w : World) (v : Int) (e : Ending) (w' : World) : Prop := e = .returned (.int .i64 v) ∧ Keeps w w' (fun _ => False)

set_option maxHeartbeats 1000000 in
theorem at_no (w : World) (b g : Nat) (bs sp : List UInt8) (m : MemAt 60 5 w b g bs sp) (p : Int) (h : p < 0 ∨ (bs.length : Int) ≤ p) :
    Calls Try.prog 15 #[.pointer (some ⟨b, 0, none⟩), .int .i64 p] w fun e w' => AtPost w (-1) e w' := by
  have hin : insideB bs.length p 1 = false := by unfold insideB; exact decide_eq_false (by omega)
  go_enter Try.func15, Try.ntmps15
  go_wp2_with fail
  refine (read_no _ b g _ _ m _ _ hin).mono ?_
  rintro e w3 ⟨rfl, rfl⟩
  clear m
  go_wp2_with fail
  go_ret
  exact ⟨rfl, Keeps.refl _ _⟩

set_option maxHeartbeats 1000000 in
theorem at_yes (w : World) (b g : Nat) (bs sp : List UInt8) (m : MemAt 60 5 w b g bs sp) (q : Nat) (h : q < bs.length) (x : UInt8) (hx : Hid (bs[q] = x)) :
    Calls Try.prog 15 #[.pointer (some ⟨b, 0, none⟩), .int .i64 (q : Int)] w fun e w' => AtPost w (x.toNat : Int) e w' := by
  have hfit : q + 1 ≤ bs.length := by omega
  go_enter Try.func15, Try.ntmps15
  go_wp2_with fail
  refine (read_yes _ b g _ _ m q 1 hfit).mono ?_
  rintro e w3 ⟨l, hl, rfl, hrow, k3⟩
  have hc : w3.cell? ⟨l, 0, none⟩ = some (.int .u8 (x.toNat : Int)) := by
    rw [← hx.out]
    have hlen : ((bs.drop q).take 1).length = 1 := by simp; omega
    have := rowOf_get ((bs.drop q).take 1) 0 (by omega)
    simp only [World.cell?, hrow]
    simpa using this
  have hx256 : x.toNat < 256 := x.toNat_lt
  clear hx hrow m hfit
  go_wp2_with fail
  go_ret
  exact ⟨rfl, k3⟩

theorem at_any (w : World) (b g : Nat) (bs sp : List UInt8) (m : MemAt 60 5 w b g bs sp) (p : Int) :
    Calls Try.prog 15 #[.pointer (some ⟨b, 0, none⟩), .int .i64 p] w fun e w' => AtPost w (atVal bs p) e w' := by
  by_cases h : p < 0 ∨ (bs.length : Int) ≤ p
  · rw [atVal_out bs p h]
    exact at_no w b g bs sp m p h
  · obtain ⟨q, rfl⟩ := Int.eq_ofNat_of_zero_le (show 0 ≤ p by omega)
    have hq : q < bs.length := by omega
    rw [atVal_in bs q hq]
    exact at_yes w b g bs sp m q hq _ rfl
end Go.Proofs.Ytlgmpnaalifegab
