import Derived.Test.YtlgmpnaalifegabWalks34
import Derived.Test.YtlgmpnaalifegabWalks35
namespace Go.Proofs.Ytlgmpnaalifegab
open Go.RowKit

theorem plays_any {B : Nat} {w : World} {b rb : Nat} {F : Nat → Prop} {bs : List UInt8} {xs : List ActD} {g : Nat} {sp : List UInt8} {av : Value} (p : PairAt B w b rb F bs xs g sp av) (hB : B ≤ w.heap.size) (hn : xs.length < 1048576) (kd mm A C N : Int) (V : Nat) (ao : Option Addr) (cap : Nat) (ts : List ByteArray)
    (hV : V < 18446744073709551616) (hts : StrsAt w B ao ts) (htn : ts.length ≤ 1048576) (htz : ∀ t ∈ ts, t.size ≤ 1048576) (hc : (catAll (bytesOf ts)).length ≤ 1048576) :
    Calls Try.prog 21 #[.pointer (some ⟨b, 0, none⟩), .pointer (some ⟨rb, 0, none⟩), opArg kd mm A C N V ao ts.length cap] w fun e w' => PlaysPost B w b rb F xs e w' := by
  by_cases hk : kd < 1 ∨ 9 < kd
  · exact plays_other p kd mm A C N V ao ts.length cap hk
  have hcs : (kd = 1 ∨ kd = 3 ∨ kd = 7 ∨ kd = 8) ∨ kd = 2 ∨ kd = 4 ∨ kd = 5 ∨ kd = 6 ∨ kd = 9 := by omega
  rcases hcs with h | rfl | rfl | rfl | rfl | rfl
  · exact plays_asks p kd mm A C N V ao ts.length cap h
  · by_cases h1 : A < bs.length ∨ 134217728 < A
    · exact plays_grow_no p mm A C N V ao ts.length cap h1
    · exact plays_grow_yes p hB hn mm A C N V ao ts.length cap A.toNat (by omega) (by omega) (by omega)
  · cases h1 : widthB N
    · exact plays_store_width p mm A C N V ao ts.length cap h1
    · cases h2 : insideB bs.length A N
      · exact plays_store_out p mm A C N V ao ts.length cap h1 h2
      · exact plays_store_yes p hB hn mm A C N V ao ts.length cap hV h1 h2
  · cases h2 : insideB bs.length A N
    · exact plays_fill_no p mm A C N V ao ts.length cap h2
    · exact plays_fill_yes p hB hn mm A C N V ao ts.length cap (UInt8.ofNat (V % 256)) (show (V : Int) % 256 = _ by rw [UInt8.toNat_ofNat_of_lt' (show V % 256 < 256 by omega)]; omega) h2
  · cases h2 : (insideB bs.length A N && insideB bs.length C N)
    · exact plays_copy_no p mm A C N V ao ts.length cap h2
    · exact plays_copy_yes p hB hn mm A C N V ao ts.length cap h2
  · exact plays_write p hB hn mm A C N V ao cap ts hts htn htz hc
end Go.Proofs.Ytlgmpnaalifegab
