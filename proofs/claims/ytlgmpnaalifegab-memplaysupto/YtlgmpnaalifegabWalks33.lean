import Derived.Test.YtlgmpnaalifegabWalks31
namespace Go.Proofs.Ytlgmpnaalifegab
open Go.RowKit

set_option maxRecDepth 100000 in
set_option maxHeartbeats 1000000 in
theorem plays_asked {B : Nat} {w : World} {b rb : Nat} {F : Nat → Prop} {bs : List UInt8} {xs : List ActD} {g : Nat} {sp : List UInt8} {av : Value} (p : PairAt B w b rb F bs xs g sp av) (kd mm A C N : Int) (V : Nat) (ao : Option Addr) (n cap : Nat) (hk : kd = 1 ∨ kd = 8) :
    Calls Try.prog 21 #[.pointer (some ⟨b, 0, none⟩), .pointer (some ⟨rb, 0, none⟩), opArg kd mm A C N V ao n cap] w fun e w' => AskPost w e w' := by
  have k1 : Keeps w (w.alloc (.cells (opCells kd mm A C N V ao n cap) 47)) (fun _ => False) := (Keeps.refl _ _).alloc _
  have h3 := asks_any (p.keepsNone k1) kd mm A C N V ao n cap (by omega)
  unfold opCells at k1 h3
  clear p
  rcases hk with rfl | rfl
  all_goals
    go_enter Try.func21, Try.ntmps21
    go_wp2_with fail
    refine h3.mono ?_
    rintro e w2 ⟨rfl, k2⟩
    clear h3
    go_wp2_with fail
    go_ret
    exact ⟨rfl, k1.trans k2 (fun _ _ x => x)⟩

set_option maxRecDepth 100000 in
set_option maxHeartbeats 1000000 in
theorem around_any {B : Nat} {w : World} {b rb : Nat} {F : Nat → Prop} {bs : List UInt8} {xs : List ActD} {g : Nat} {sp : List UInt8} {av : Value} (p : PairAt B w b rb F bs xs g sp av) (q : Nat) (hq : q ≤ 134217728) :
    Calls Try.prog 39 #[.pointer (some ⟨b, 0, none⟩), .pointer (some ⟨rb, 0, none⟩), .int .i64 (q : Int)] w fun e w' => AskPost w e w' := by
  have hc0 := p.r.cell0
  have hl : bs.length ≤ 134217728 := p.r.hsz
  have hp := fun A N => plays_asked p 8 0 A 0 N 0 none 0 0 (Or.inr rfl)
  generalize bs.length = sz at *
  clear p
  have hz : ((0 : Nat) : Int) = 0 := rfl
  simp only [opArg, hz] at hp
  clear hz
  by_cases h1 : q < 16
  · by_cases h2 : 32 < sz
    · have hp1 := hp 0 32
      clear hp
      go_enter Try.func39, Try.ntmps39
      go_wp2_with fail
      refine hp1.mono ?_
      rintro e w2 ⟨rfl, k2⟩
      clear hp1
      go_wp2_with fail
      go_ret
      exact ⟨rfl, k2⟩
    · by_cases h3 : sz = 0
      · subst h3
        clear hp
        go_enter Try.func39, Try.ntmps39
        go_wp2_with fail
        go_ret
        exact ⟨rfl, Keeps.refl _ _⟩
      · have hp1 := hp 0 sz
        have h4 : ¬ (sz : Int) ≤ 0 := by omega
        clear hp
        go_enter Try.func39, Try.ntmps39
        go_wp2_with fail
        refine hp1.mono ?_
        rintro e w2 ⟨rfl, k2⟩
        clear hp1
        go_wp2_with fail
        go_ret
        exact ⟨rfl, k2⟩
  · obtain ⟨f, rfl⟩ : ∃ f : Nat, q = f + 16 := ⟨q - 16, by omega⟩
    have e1 : ((f + 16 : Nat) : Int) - 16 = (f : Int) := by omega
    by_cases h2 : 32 < (sz : Int) - (f : Int)
    · have hp1 := hp f 32
      clear hp
      go_enter Try.func39, Try.ntmps39
      go_wp2_with fail
      refine hp1.mono ?_
      rintro e w2 ⟨rfl, k2⟩
      clear hp1
      go_wp2_with fail
      go_ret
      exact ⟨rfl, k2⟩
    · by_cases h3 : (sz : Int) - (f : Int) ≤ 0
      · clear hp
        go_enter Try.func39, Try.ntmps39
        go_wp2_with fail
        go_ret
        exact ⟨rfl, Keeps.refl _ _⟩
      · have hp1 := hp f ((sz : Int) - (f : Int))
        clear hp
        go_enter Try.func39, Try.ntmps39
        go_wp2_with fail
        refine hp1.mono ?_
        rintro e w2 ⟨rfl, k2⟩
        clear hp1
        go_wp2_with fail
        go_ret
        exact ⟨rfl, k2⟩
end Go.Proofs.Ytlgmpnaalifegab
