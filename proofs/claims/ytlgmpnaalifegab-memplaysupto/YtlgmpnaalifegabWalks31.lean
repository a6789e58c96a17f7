import Derived.Test.YtlgmpnaalifegabWalks30
namespace Go.Proofs.Ytlgmpnaalifegab
open Go.RowKit

def PlaysPost (B : Nat) (w : World) (b rb : Nat) (F : Nat → Prop) (xs : List ActD) (e : Ending) (w' : World) : Prop :=
  e = .returned (.bool true) ∧ ∃ F' bs' xs' g' sp' av', PairAt B w' b rb F' bs' xs' g' sp' av' ∧ Keeps w w' F ∧ (∀ k, F' k → F k ∨ w.heap.size ≤ k) ∧ xs'.length ≤ xs.length + 1

theorem plays_same {B : Nat} {w w' : World} {b rb : Nat} {F : Nat → Prop} {bs : List UInt8} {xs : List ActD} {g : Nat} {sp : List UInt8} {av : Value} (p : PairAt B w b rb F bs xs g sp av) (k : Keeps w w' (fun _ => False)) : PlaysPost B w b rb F xs (.returned (.bool true)) w' :=
  ⟨rfl, F, bs, xs, g, sp, av, p.keepsNone k, k.mono (fun _ _ x => x.elim), fun _ h => Or.inl h, by omega⟩

theorem pair_mid {B : Nat} {w w2 : World} {b rb : Nat} {F : Nat → Prop} {bs : List UInt8} {xs : List ActD} {g : Nat} {sp : List UInt8} {av : Value} (p : PairAt B w b rb F bs xs g sp av) (k : Keeps w w2 (fun k => k = b ∨ k = g)) : RefAt B w2 rb bs.length av xs :=
  p.r.keeps k (fun h => h.elim p.apart.1 p.apart.2.1) (fun i hi h => h.elim (p.apart.2.2 i hi).1 (p.apart.2.2 i hi).2)

theorem pair_step {B : Nat} {w w2 w3 : World} {b rb : Nat} {F : Nat → Prop} {bs bs' : List UInt8} {xs xs' : List ActD} {g g' : Nat} {sp sp' : List UInt8} {av av' : Value} (p : PairAt B w b rb F bs xs g sp av)
    (k12 : Keeps w w2 (fun k => k = b ∨ k = g)) (m2 : MemAt 60 5 w2 b g' bs' sp') (hg : g' = g ∨ w.heap.size ≤ g') (k23 : Keeps w2 w3 (fun k => k = rb ∨ av.ownBlock = some k)) (r3 : RefAt B w3 rb bs'.length av' xs') (hav : ∀ k, av'.ownBlock = some k → av.ownBlock = some k ∨ w2.heap.size ≤ k)
    (t : Told xs' bs') (hB : B ≤ w.heap.size) (hx : xs'.length ≤ xs.length + 1) : PlaysPost B w b rb F xs (.returned (.bool true)) w3 := by
  have ha := p.apart
  have hrb : rb < w.heap.size := heap_lt p.r.hb
  have hown : ∀ k, av.ownBlock = some k → k < w.heap.size := fun k hk => own_lt p.r.own hk
  have m3 : MemAt 60 5 w3 b g' bs' sp' := m2.keeps k23 (by
    rintro (e | e)
    · exact ha.1 e.symm
    · exact (ha.2.2 _ e).1 rfl) (by
    rintro (e | e)
    · rcases hg with hg | hg
      · exact ha.2.1 (by omega)
      · omega
    · have := hown _ e
      rcases hg with hg | hg
      · exact (ha.2.2 _ e).2 hg
      · omega)
  have kk : Keeps w w3 F := (k12.mono (fun i _ h => h.elim (fun e => e ▸ p.fb) (fun e => e ▸ p.fg))).trans k23 (fun i hi h => h.elim (fun e => e ▸ p.frb) (fun e => p.fav i e))
  refine ⟨rfl, fun k => F k ∨ k = g' ∨ av'.ownBlock = some k, bs', xs', g', sp', av', ⟨m3, r3, t, Or.inl p.fb, Or.inr (Or.inl rfl), Or.inl p.frb, fun k hk => Or.inr (Or.inr hk), fun k hk => ?_⟩, kk, fun k hk => ?_, hx⟩
  · rcases hk with hk | hk | hk
    · exact ⟨Nat.lt_of_lt_of_le (p.low k hk).1 kk.size, (p.low k hk).2⟩
    · subst hk
      refine ⟨heap_lt m3.hg, ?_⟩
      rcases hg with hg | hg
      · rw [hg]; exact (p.low _ p.fg).2
      · omega
    · refine ⟨own_lt r3.own hk, ?_⟩
      rcases hav k hk with h | h
      · exact (p.low _ (p.fav k h)).2
      · have := k12.size
        omega
  · rcases hk with hk | hk | hk
    · exact Or.inl hk
    · subst hk
      rcases hg with hg | hg
      · rw [hg]; exact Or.inl p.fg
      · exact Or.inr hg
    · rcases hav k hk with h | h
      · exact Or.inl (p.fav k h)
      · have := k12.size
        exact Or.inr (by omega)

/-- A write is told. -/
theorem told_splice {xs : List ActD} {bs : List UInt8} (t : Told xs bs) (a : ActD) (x : List UInt8) (h : a.off + a.n ≤ bs.length) (hx : x.length = a.n)
    (hv : ∀ j, j < a.n → (if a.k = 1 then a.u else if a.k = 2 then a.s.data.toList.getD j 0 else bs.getD (a.src + j) 0) = x.getD j 0) : Told (xs ++ [a]) (splice bs a.off x) := by
  intro p
  rw [List.reverse_append, List.reverse_singleton, List.singleton_append, lookB, List.getD_eq_getElem?_getD (l := splice bs a.off x), splice_get (by omega), hx]
  by_cases hp : a.off ≤ p ∧ p < a.off + a.n
  · rw [if_pos hp, if_pos hp, ← List.getD_eq_getElem?_getD, ← hv (p - a.off) (by omega), t (a.src + (p - a.off))]
  · rw [if_neg hp, if_neg hp, t p, List.getD_eq_getElem?_getD]
theorem told_grown {xs : List ActD} {bs : List UInt8} (t : Told xs bs) (n : Nat) : Told xs (bs ++ zeros n) := by
  intro p
  rw [t p, List.getD_eq_getElem?_getD, List.getD_eq_getElem?_getD]
  by_cases h : p < bs.length
  · rw [List.getElem?_append_left h]
  · rw [List.getElem?_append_right (by omega), List.getElem?_eq_none (by omega)]
    by_cases h2 : p - bs.length < n
    · simp [zeros, h2]
    · simp [zeros, h2]

set_option maxRecDepth 100000 in
set_option maxHeartbeats 1000000 in
theorem plays_asks {B : Nat} {w : World} {b rb : Nat} {F : Nat → Prop} {bs : List UInt8} {xs : List ActD} {g : Nat} {sp : List UInt8} {av : Value} (p : PairAt B w b rb F bs xs g sp av) (kd mm A C N : Int) (V : Nat) (ao : Option Addr) (n cap : Nat) (hk : kd = 1 ∨ kd = 3 ∨ kd = 7 ∨ kd = 8) :
    Calls Try.prog 21 #[.pointer (some ⟨b, 0, none⟩), .pointer (some ⟨rb, 0, none⟩), opArg kd mm A C N V ao n cap] w fun e w' => PlaysPost B w b rb F xs e w' := by
  have k1 : Keeps w (w.alloc (.cells (opCells kd mm A C N V ao n cap) 47)) (fun _ => False) := (Keeps.refl _ _).alloc _
  have h3 := asks_any (p.keepsNone k1) kd mm A C N V ao n cap hk
  have P : Hid (PairAt B w b rb F bs xs g sp av) := p
  unfold opCells at k1 h3
  clear p
  rcases hk with rfl | rfl | rfl | rfl
  all_goals
    go_enter Try.func21, Try.ntmps21
    go_wp2_with fail
    refine h3.mono ?_
    rintro e w2 ⟨rfl, k2⟩
    clear h3
    go_wp2_with fail
    go_ret
    exact plays_same P.out (k1.trans k2 (fun _ _ x => x))
end Go.Proofs.Ytlgmpnaalifegab
