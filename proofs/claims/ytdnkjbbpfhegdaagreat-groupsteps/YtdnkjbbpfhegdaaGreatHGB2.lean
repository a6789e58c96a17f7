/-
  take, and which cells it leaves alone.
-/
import Derived.Test.YtdnkjbbpfhegdaaGreatMg15
namespace Go.Proofs.YtdnkjbbpfhegdaaGreat
open Go.RowKit Go.Shelf Ly Ct
set_option linter.unusedVariables false

/-- What a step leaves: a desk again; but its own slot (or all, where it prunes) the cells are as they were. -/
def Take6Stay (w : World) (p : Nat) (F : Nat → Prop) (l : Lay) (off : Nat) (sk si : Int) (c : Nat → GC) (e : Ending) (w' : World) : Prop := e = .returned (.bool true) ∧ ∃ d' c', Turned w w' p F d' ∧ DeskD d' l off c' ∧ (sk % 5 = 4 ∨ ∀ j : Nat, (j : Int) ≠ si % 8 → c' j = c j)
theorem take_stay {w : World} {p : Nat} {F : Nat → Prop} {d : AD} (hA : Arena w p F d) (hFl : ∀ k, F k → k < w.heap.size) (l : Lay) (off : Nat) (en : Int) (c : Nat → GC) (hD : DeskD d l off c) (ho : fitsI (off : Int)) (hn : fitsI l.g)
    (sk si st sb : Int) (sx : ByteArray) (hk : (Lit.int .i64 sk).wf = true) (hi : (Lit.int .i64 si).wf = true) (ht : (Lit.int .i64 st).wf = true) (hb : -9223372036854775808 ≤ sb ∧ sb ≤ 9223372036854775807) (hx : sx.size ≤ 140737488355328) :
    Calls Tryz.prog 8 #[.agg #[.pointer (some ⟨p, 0, none⟩), .int .i64 l.k, .int .i64 l.e, .int .i64 l.a, .int .i64 l.b, .int .i64 l.c, .int .i64 l.eo, .int .i64 l.bo, .int .i64 l.s, .int .i64 l.g, .int .i64 (off : Int), .int .i64 en], .agg #[.int .i64 sk, .int .i64 si, .int .i64 st, .int .i64 sb, .string sx]] w fun e w' => Take6Stay w p F l off sk si c e w' := by
  have hG := hD.grp
  have hvm := valid_more hG.valid
  obtain ⟨i, hie⟩ := Int.eq_ofNat_of_zero_le (show 0 ≤ si % 8 by omega)
  have hi8 : i < 8 := by omega
  have hi' : Mod6 si 8 (i : Int) := ⟨hi, by omega, by omega, hie⟩
  have h5 : sk % 5 = 0 ∨ sk % 5 = 1 ∨ sk % 5 = 2 ∨ sk % 5 = 3 ∨ sk % 5 = 4 := by omega
  rcases h5 with h | h | h | h | h
  · have hbd := birthD_in hb
    have hf := hG.fill hi8 (t := st % 128) (by omega) (by omega) (k := wideD sx l.k.toNat) (e := wideD (sx ++ ⟨#[45]⟩) l.e.toNat) (by rw [wideD_size]; omega) (by rw [wideD_size]; omega) hbd.1 hbd.2
    refine (take_fill hA hD.fine hD.small hFl l off en c hG ho hn sk si st sb sx hx hb ⟨hk, by omega, by omega, h⟩ i hi' hi8 (st % 128) ⟨ht, by omega, by omega, rfl⟩ (by omega) (by omega)).mono ?_
    rintro e w' ⟨rfl, T⟩
    exact ⟨rfl, _, _, T, hD.turn hf.2.1 hf.2.2, .inr (fun j hj => if_neg (fun e => hj (by rw [e, hie])))⟩
  · by_cases h2 : (c i).kind = 2
    · have hf := hG.setElem hi8 (e := wideD sx l.e.toNat) (by rw [wideD_size]; omega) h2
      refine (take_set_yes hA hD.fine hD.small hFl l off en c hG ho hn sk si st sb sx hx ⟨hk, by omega, by omega, h⟩ i hi' hi8 h2).mono ?_
      rintro e w' ⟨rfl, T⟩
      exact ⟨rfl, _, _, T, hD.turn hf.2.1 hf.2.2, .inr (fun j hj => if_neg (fun e => hj (by rw [e, hie])))⟩
    · refine (take_set_no hA hD.fine hD.small hFl l off en c hG ho hn sk si st sb sx hx ⟨hk, by omega, by omega, h⟩ i hi' hi8 h2).mono ?_
      rintro e w' ⟨rfl, T⟩
      exact ⟨rfl, _, _, T, hD, .inr (fun j _ => rfl)⟩
  · have hf := hG.erase hi8 false
    refine (take_erase hA hD.fine hFl l off en c hG ho hn sk si st sb sx ⟨hk, by omega, by omega, h⟩ i hi' hi8).mono ?_
    rintro e w' ⟨rfl, T⟩
    exact ⟨rfl, _, _, T, hD.turn hf.2.1 hf.2.2, .inr (fun j hj => if_neg (fun e => hj (by rw [e, hie])))⟩
  · have hf := hG.erase hi8 true
    refine (take_mark hA hD.fine hFl l off en c hG ho hn sk si st sb sx ⟨hk, by omega, by omega, h⟩ i hi' hi8).mono ?_
    rintro e w' ⟨rfl, T⟩
    exact ⟨rfl, _, _, T, hD.turn hf.2.1 hf.2.2, .inr (fun j hj => if_neg (fun e => hj (by rw [e, hie])))⟩
  · have hf := hG.prune
    refine (take_prune hA hD.fine hFl l off en c hG ho hn sk si st sb sx ⟨hk, by omega, by omega, h⟩ i hi').mono ?_
    rintro e w' ⟨rfl, T⟩
    exact ⟨rfl, _, _, T, hD.turn hf.2.2.1 hf.2.2.2, .inl h⟩

/-- A desk that a statement keeps in block Bd; the blocks X are none of the arena's. -/
structure AtX (V wr : World) (p Bd : Nat) (X : Nat → Prop) (l : Lay) (off : Nat) (en : Int) (d : AD) (c : Nat → GC) : Prop where
  own : Own V wr p X d
  desk : DeskD d l off c
  blk : wr.heap[Bd]? = some (.cells #[.pointer (some ⟨p, 0, none⟩), .int .i64 l.k, .int .i64 l.e, .int .i64 l.a, .int .i64 l.b, .int .i64 l.c, .int .i64 l.eo, .int .i64 l.bo, .int .i64 l.s, .int .i64 l.g, .int .i64 (off : Int), .int .i64 en] 31)
  mem : X Bd
  lt : ∀ k, X k → k < wr.heap.size
section
variable {V wr w' : World} {p Bd : Nat} {X : Nat → Prop} {l : Lay} {off : Nat} {en : Int} {d d' : AD} {c c' : Nat → GC}
theorem AtX.of (h : AtDesk V wr p Bd l off en d c) : AtX V wr p Bd (fun k => k = Bd) l off en d c := ⟨h.own, h.desk, h.blk, rfl, fun k e => by have := h.lt; omega⟩
theorem AtX.stay (h : AtX V wr p Bd X l off en d c) (k : Keeps wr w' (fun _ => False)) : AtX V w' p Bd X l off en d c :=
  ⟨h.own.stay k, h.desk, k.blk h.blk, h.mem, fun j hj => Nat.lt_of_lt_of_le (h.lt j hj) k.size⟩
theorem AtX.turn (h : AtX V wr p Bd X l off en d c) (ht : Turned wr w' p (fun k => (V.heap.size ≤ k ∧ ¬ X k) ∧ k < wr.heap.size) d') (hd : DeskD d' l off c') : AtX V w' p Bd X l off en d' c' :=
  ⟨h.own.turn ht h.lt, hd, (ht.2.block Bd (h.lt _ h.mem) (fun e => e.1.2 h.mem)).trans h.blk, h.mem, fun j hj => Nat.lt_of_lt_of_le (h.lt j hj) ht.2.size⟩
theorem AtX.add {b : Nat} (h : AtX V wr p Bd X l off en d c) (k : Keeps wr w' (fun _ => False)) (h1 : wr.heap.size ≤ b) (h2 : b < w'.heap.size) : AtX V w' p Bd (fun i => X i ∨ i = b) l off en d c := by
  have h3 : Own V wr p (fun i => X i ∨ i = b) d := ⟨h.own.arena.mono (fun i hi e => ⟨e.1, fun x => x.elim e.2 (fun e' => by omega)⟩), h.own.keeps⟩
  exact ⟨h3.stay k, h.desk, k.blk h.blk, Or.inl h.mem, fun j hj => hj.elim (fun q => Nat.lt_of_lt_of_le (h.lt j q) k.size) (fun q => by omega)⟩
theorem AtX.less {Y : Nat → Prop} (h : AtX V wr p Bd X l off en d c) (hY : ∀ k, Y k → X k) (hm : Y Bd) : AtX V wr p Bd Y l off en d c :=
  ⟨h.own.less (fun k _ _ y => hY k y), h.desk, h.blk, hm, fun k y => h.lt k (hY k y)⟩
theorem AtX.row {b : Nat} {t : TypeId} {f : Nat → GC} (hb : X b) (r : RowG wr b t f) (ht : Turned wr w' p (fun k => (V.heap.size ≤ k ∧ ¬ X k) ∧ k < wr.heap.size) d') : RowG w' b t f :=
  r.keeps ht.2 (fun e => e.1.2 hb)
end
end Go.Proofs.YtdnkjbbpfhegdaaGreat
