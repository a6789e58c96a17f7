import Derived.Test.YtlgmpnaalifegabWalks33
namespace Go.Proofs.Ytlgmpnaalifegab
open Go.RowKit

set_option maxHeartbeats 400000 in
theorem ends_nil (w : World) (rv : Value) : Calls Try.prog 22 #[.pointer none, rv] w fun e w' => AskPost w e w' := by
  go_enter Try.func22, Try.ntmps22
  go_wp2_with fail
  go_ret
  exact ⟨rfl, Keeps.refl _ _⟩

set_option maxRecDepth 100000 in
set_option maxHeartbeats 600000 in
theorem ends_small {B : Nat} {w : World} {b rb : Nat} {F : Nat → Prop} {bs : List UInt8} {xs : List ActD} {g : Nat} {sp : List UInt8} {av : Value} (p : PairAt B w b rb F bs xs g sp av) (h : bs.length ≤ 2048) :
    Calls Try.prog 22 #[.pointer (some ⟨b, 0, none⟩), .pointer (some ⟨rb, 0, none⟩)] w fun e w' => AskPost w e w' := by
  have hc0 := p.r.cell0
  have hl : bs.length ≤ 134217728 := p.r.hsz
  have P : Hid (PairAt B w b rb F bs xs g sp av) := p
  have hp1 := plays_asked p 1 0 0 0 0 0 none 0 0 (Or.inl rfl)
  simp only [opArg, show ((0 : Nat) : Int) = 0 from rfl] at hp1
  clear p
  go_enter Try.func22, Try.ntmps22
  go_wp2_with fail
  refine hp1.mono ?_
  rintro e w2 ⟨rfl, k2⟩
  clear hp1
  have p2 := P.out.keepsNone k2
  have hp2 := plays_asked p2 8 0 0 0 bs.length 0 none 0 0 (Or.inr rfl)
  simp only [opArg, show ((0 : Nat) : Int) = 0 from rfl] at hp2
  clear p2
  go_wp2_with fail
  refine hp2.mono ?_
  rintro e w3 ⟨rfl, k3⟩
  clear hp2
  have K3 := k2.trans k3 (fun _ _ x => x)
  have p3 := P.out.keepsNone K3
  have hc3 := p3.r.cell0
  have hp3 := plays_asked p3 8 0 0 0 bs.length 0 none 0 0 (Or.inr rfl)
  simp only [opArg, show ((0 : Nat) : Int) = 0 from rfl] at hp3
  clear p3 k2 k3
  go_wp2_with fail
  refine hp3.mono ?_
  rintro e w4 ⟨rfl, k4⟩
  clear hp3
  go_wp2_with fail
  go_ret
  exact ⟨rfl, K3.trans k4 (fun _ _ x => x)⟩

set_option maxRecDepth 100000 in
set_option maxHeartbeats 4000000 in
theorem ends_big {B : Nat} {w : World} {b rb : Nat} {F : Nat → Prop} {bs : List UInt8} {xs : List ActD} {g : Nat} {sp : List UInt8} {ao : Option Addr} {c : Nat} (p : PairAt B w b rb F bs xs g sp (.slice ao xs.length c)) (h : 2048 < bs.length) :
    Calls Try.prog 22 #[.pointer (some ⟨b, 0, none⟩), .pointer (some ⟨rb, 0, none⟩)] w fun e w' => AskPost w e w' := by
  have hc0 := p.r.cell0
  have hc1 := p.r.cell1
  have hl : bs.length ≤ 134217728 := p.r.hsz
  have hxl := p.r.hlen
  have hd : (2048 : Int) < (bs.length : Int) := by omega
  have P : Hid (PairAt B w b rb F bs xs g sp (.slice ao xs.length c)) := p
  clear p
  go_enter Try.func22, Try.ntmps22
  go_wp2_with fail
  go_loopw [21] (fun i wr => ∃ k : Nat, k ≤ xs.length ∧ i = .int .i64 (k : Int) ∧ Keeps w wr (fun _ => False)) (fun i _ => xs.length - (intOf i).toNat)
  case atStart => exact ⟨0, Nat.zero_le _, rfl, Keeps.refl _ _⟩
  case round =>
    obtain ⟨k, hk, rfl, K⟩ := hrel
    by_cases hlt : k < xs.length
    · have pK := P.out.keepsNone K
      obtain ⟨ga, ca, hav⟩ := pK.r.form (by omega)
      injection hav with hav1 hav2 hav3
      subst hav1 hav3
      have hok := pK.r.hok _ (List.getElem_mem hlt)
      have hc := fun j (hj : j < 6) => pK.r.act.2 k hlt j hj
      have d0 := hc 0 (by omega)
      have d1 := hc 1 (by omega)
      have d2 := hc 2 (by omega)
      have d3 := hc 3 (by omega)
      have d4 := hc 4 (by omega)
      have d5 := hc 5 (by omega)
      clear hc
      generalize xs[k] = a at *
      simp only [ActD.cells, actVal, List.getElem?_cons_zero, List.getElem?_cons_succ] at d0 d1 d2 d3 d4 d5
      obtain ⟨ak, off, n, src, u, s⟩ := a
      obtain ⟨o1, o2, o3, o4⟩ := hok
      simp only at *
      rw [Nat.add_zero] at d0
      have k1 : Keeps wr (wr.alloc (.cells (actVal ak off n src u s) 82)) (fun _ => False) := (Keeps.refl _ _).alloc _
      have ha1 := around_any (pK.keepsNone k1) off (by omega)
      have K1 := K.trans k1 (fun _ _ x => x)
      have hnew := heap_alloc_new wr (.cells (actVal ak off n src u s) 82)
      unfold actVal at ha1 K1 hnew
      clear K k1 pK o3 o4
      go_wp2_with fail
      refine ha1.mono ?_
      rintro e w2 ⟨rfl, k2⟩
      clear ha1
      have hblk := (k2.block wr.heap.size (heap_lt hnew) id).trans hnew
      have c1 : w2.cell? ⟨wr.heap.size, 1, none⟩ = some (.int .i64 (off : Int)) := by simp [World.cell?, hblk]
      have c2 : w2.cell? ⟨wr.heap.size, 2, none⟩ = some (.int .i64 (n : Int)) := by simp [World.cell?, hblk]
      have K2 := K1.trans k2 (fun _ _ x => x)
      have ha2 := around_any (P.out.keepsNone K2) (off + n) (by omega)
      rw [show ((off + n : Nat) : Int) = (off : Int) + (n : Int) from by omega] at ha2
      clear hblk hnew K1 k2
      go_wp2_with fail
      refine ha2.mono ?_
      rintro e w3 ⟨rfl, k3⟩
      clear ha2
      have K3 := K2.trans k3 (fun _ _ x => x)
      clear K2 k3
      go_wp2_with fail
      go_roundw
      case rel => exact ⟨k + 1, by omega, by go_num, K3⟩
      case measure => simp [intOf]; omega
    · clear hc0 hc1
      have pK := P.out.keepsNone K
      have hcK := pK.r.cell0
      have hp1 := plays_asked pK 1 0 0 0 0 0 none 0 0 (Or.inl rfl)
      simp only [opArg, show ((0 : Nat) : Int) = 0 from rfl] at hp1
      clear pK hcK
      go_wp2_with fail
      refine hp1.mono ?_
      rintro e w2 ⟨rfl, k2⟩
      clear hp1
      have K2 := K.trans k2 (fun _ _ x => x)
      have p2 := P.out.keepsNone K2
      have hp2 := plays_asked p2 8 0 0 0 256 0 none 0 0 (Or.inr rfl)
      simp only [opArg, show ((0 : Nat) : Int) = 0 from rfl] at hp2
      clear p2 k2 K
      go_wp2_with fail
      refine hp2.mono ?_
      rintro e w3 ⟨rfl, k3⟩
      clear hp2
      have K3 := K2.trans k3 (fun _ _ x => x)
      have p3 := P.out.keepsNone K3
      have hc3 := p3.r.cell0
      have hp3 := plays_asked p3 8 0 ((bs.length : Int) - 256) 0 256 0 none 0 0 (Or.inr rfl)
      simp only [opArg, show ((0 : Nat) : Int) = 0 from rfl] at hp3
      clear p3 K2 k3
      go_wp2_with fail
      refine hp3.mono ?_
      rintro e w4 ⟨rfl, k4⟩
      clear hp3
      go_wp2_with fail
      go_ret
      exact ⟨rfl, K3.trans k4 (fun _ _ x => x)⟩
theorem ends_any {B : Nat} {w : World} {b rb : Nat} {F : Nat → Prop} {bs : List UInt8} {xs : List ActD} {g : Nat} {sp : List UInt8} {av : Value} (p : PairAt B w b rb F bs xs g sp av) :
    Calls Try.prog 22 #[.pointer (some ⟨b, 0, none⟩), .pointer (some ⟨rb, 0, none⟩)] w fun e w' => AskPost w e w' := by
  by_cases h : bs.length ≤ 2048
  · exact ends_small p h
  · rcases p.r.own.2 with ⟨e, h0⟩ | ⟨ga, c, _, e, _⟩
    · rw [e] at p
      have e2 : (Value.slice none 0 0) = Value.slice none xs.length 0 := by rw [h0]
      rw [e2] at p
      exact ends_big p (by omega)
    · rw [e] at p
      exact ends_big p (by omega)
end Go.Proofs.Ytlgmpnaalifegab
