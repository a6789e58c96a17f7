import Derived.Deep.Cut
import Derived.Shelf.Strings.Builder1
import Derived.Shelf.Small.Strs
import Derived.Shelf.Strings.BuilderF
import Derived.Shelf.Strconv.Itoa0
import Derived.Shelf.Strconv.Itoa1
import Derived.Shelf.LaysM
import Derived.Shelf.Strconv.Itoa2
import Derived.Shelf.Strconv.Itoa3
import Derived.Shelf.Strconv.Itoa4
import Derived.Shelf.Strconv.ParseIntEmpty
import Derived.Shelf.Strconv.Clone
import Derived.Shelf.Strconv.SyntaxError
import Derived.Shelf.LaysC
import Derived.Shelf.Strconv.ToError
import Derived.Shelf.Strconv.Lower
import Derived.Shelf.Strconv.ParseUint10
import Derived.Shelf.Strconv.ParseUint10Empty
import Derived.Shelf.Strconv.ParseUint10Any
import Derived.Shelf.Strconv.ParseInt10
import Derived.Shelf.Strconv.RangeError
import Derived.Shelf.Strconv.ToErrorRange
import Derived.Shelf.Strconv.ParseUintEmpty
import Derived.Shelf.Strconv.ParseUint10b64
import Derived.Shelf.Strconv.ParseUint10b32
import Derived.Shelf.Strconv.ParseUint10b16
import Derived.Shelf.Strconv.ParseUint10b8
import Derived.Shelf.Strconv.ParseUint10At
import Derived.Shelf.Strconv.ParseInt10At64
import Derived.Shelf.Strconv.ParseInt10At32
import Derived.Shelf.Strconv.ParseInt10At16
import Derived.Shelf.Strconv.ParseInt10At8
import Derived.Shelf.Strconv.ParseInt10All
import Derived.Shelf.Strconv.ParseIntPublic10
import Derived.Shelf.Strconv.ErrVarParseInt
import Derived.Shelf.Strings.Search1
import Derived.Shelf.Strings.Prefix
import Derived.Test.YtlpfnikhnchpdaaDoorProg
import Derived.Lib.AtoiErrMem
import Derived.Test.YtlpfnikhnchpdaaDoorLn2
/-
  lang: scan.
-/
namespace Go.Proofs.YtlpfnikhnchpdaaDoor
namespace Lg
open Go.RowKit
set_option linter.unusedVariables false
theorem range_keeps {w w' : World} {b o : Nat} {cs : List Value} {S : Nat → Prop} (h : w.rangeAt b o cs) (k : Keeps w w' S) (hS : ¬ S b) : w'.rangeAt b o cs := fun j v hv => by
  have q := h j v hv
  have hb : b < w.heap.size := by
    refine Nat.lt_of_not_le fun hn => ?_
    rw [World.cell?, Array.getElem?_eq_none hn] at q
    cases q
  rw [World.cell?, k.block b hb hS]
  exact q
/-- A block above the tables. -/
def Hi (b : Nat) : Prop := 2 < b ∧ 3 < b ∧ 4 < b ∧ 10 < b
theorem LgAt.keeps {w w' : World} {S : Nat → Prop} (h : LgAt w) (k : Keeps w w' S) (hS : ∀ i, S i → Hi i) : LgAt w' :=
  ⟨range_keeps h.words k (fun q => Nat.lt_irrefl _ (hS _ q).1), range_keeps h.marks k (fun q => Nat.lt_irrefl _ (hS _ q).2.1), range_keeps h.opers k (fun q => Nat.lt_irrefl _ (hS _ q).2.2.1)⟩
/-- A block's three cells. -/
def Tk3 (w : World) (g : Nat) (x y z : Value) : Prop := w.heap[g]? = some (.cells #[x, y, z] 116)
theorem Tk3.cells {w : World} {g : Nat} {x y z : Value} (h : Tk3 w g x y z) :
    (w.cell? ⟨g, 0, none⟩ = some x ∧ w.cell? ⟨g, 1, none⟩ = some y ∧ w.cell? ⟨g, 2, none⟩ = some z) ∧ w.frozen? ⟨g, 0, none⟩ = false ∧ w.frozen? ⟨g, 1, none⟩ = false ∧ w.frozen? ⟨g, 2, none⟩ = false := by
  have h : w.heap[g]? = _ := h
  simp [World.cell?, World.frozen?, h]
theorem set3 {w : World} {g : Nat} {x y z a b c : Value} {P : World → Prop} (h : Tk3 w g x y z) (hp : ∀ W, Tk3 W g a b c → Keeps w W (fun i => i = g) → P W) : P (((w.setCell ⟨g, 0, none⟩ a).setCell ⟨g, 1, none⟩ b).setCell ⟨g, 2, none⟩ c) :=
  hp _ (three_set h a b c) ((((Keeps.refl w (fun i => i = g)).setCell _ (fun _ => rfl) _).setCell _ (fun _ => rfl) _).setCell _ (fun _ => rfl) _)
theorem cnt_step {w : World} {b : Nat} {T : Bs} {a l c k : Nat} {tx : Bs} {ln : Nat} {P : World → Prop} (h : RdB w b T a l c k tx ln) (hp : ∀ W, RdB W b T a l (c + 1) k tx ln → Keeps w W (fun i => i = b) → P W) : P (w.setCell ⟨b, 3, none⟩ (.int .i64 ((c : Int) + 1))) :=
  hp _ (RdB.cnt w h (c + 1)) ((Keeps.refl w (fun i => i = b)).setCell _ (fun _ => rfl) _)
theorem at_step {w : World} {b : Nat} {T : Bs} {a l c k : Nat} {tx : Bs} {ln n : Nat} {P : World → Prop} (h : RdB w b T a l c k tx ln) (hp : ∀ W, RdB W b T (a + n) l c k tx ln → Keeps w W (fun i => i = b) → P W) : P (w.setCell ⟨b, 1, none⟩ (.int .i64 ((a : Int) + (n : Int)))) :=
  hp _ (RdB.at w h (a + n)) ((Keeps.refl w (fun i => i = b)).setCell _ (fun _ => rfl) _)

set_option maxRecDepth 100000 in
set_option maxHeartbeats 4000000 in
theorem scan_any {w : World} {b : Nat} {T : Bs} {a l c k : Nat} {tx : Bs} {ln : Nat} (hG : LgAt w) (hb : Hi b) (h : RdB w b T a l c k tx ln) (ha : a ≤ T.length) (hl : l ≤ a + 1) (hc : c ≤ 8192) (hT : T.length ≤ 1048576) :
    Calls Tryd.prog 63 #[.pointer (some ⟨b, 0, none⟩)] w (ScanPost w b T a l c k tx ln) := by
  have HP : Hid (∀ (a' l' c' : Nat) (t : Tk) (rest : List Tk) (w' : World), toks0 (T.drop a) l c = t :: rest → (2 ≤ t.kind → rest = toks0 (T.drop a') l' c' ∧ c' ≤ 8192) → t.kind ≤ 4 → a ≤ a' → a' ≤ T.length → l' ≤ a' + 1 → t.line ≤ T.length + 1 → t.text.length ≤ T.length → RdB w' b T a' l' c' k tx ln → Keeps w w' (fun i => i = b) →
      ScanPost w b T a l c k tx ln (.returned (.agg #[.int .i64 (t.kind : Int), .string (sB t.text), .int .i64 (t.line : Int)])) w') := fun a' l' c' t rest w' h1 h2 h3 h4 h5 h6 h7 h8 h9 h10 => ⟨a', l', c', t, rest, rfl, h1, h2, h3, h4, h5, h6, h7, h8, h9, h10⟩
  have HH := hide (And.intro hG (And.intro hb (And.intro h (And.intro ha (And.intro hl (And.intro hc hT))))))
  have HB := hide (heap_lt h)
  clear hG hb h ha hl hc hT
  generalize hQ : ScanPost w b T a l c k tx ln = Q at *
  clear hQ
  go_enter Tryd.func63, Tryd.ntmps63
  go_upto_region 1 with fail
  refine alloc1 (P := fun W => Code.wp _ _ _ _ W) fun W0 hg hz k0 => ?_
  obtain ⟨hG, hb, h, ha, hl, hc, hT⟩ := HH.out
  have h0 : RdB W0 b T a l c k tx ln := h.keeps k0 id
  have hsk := skip_any h0 ha hl hT
  have HHc := hide hc
  have HI := hide hb
  have HK0 := hide k0
  have Hg := hide hg
  have hgb : b ≠ w.heap.size := Nat.ne_of_lt HB.out
  have Hgb := hide hgb
  clear hG hb h ha hl hc hT h0 k0 hg hgb hz
  generalize hgz : w.heap.size = g at *
  replace hgz := hide hgz
  go_wp2_with fail
  refine hsk.mono ?_
  rintro e w1 ⟨rfl, a', l', hs, h1, h2, h3, h4, k1⟩
  clear hsk
  have hcut := fun W => cut_from W T a' h2
  obtain ⟨⟨c0, c1, c2, c3, c4, c5, c6⟩, f1, f2, f3, f4, f5, f6⟩ := h4.cells
  have S0 : (fun w' : World => w'.cell? ⟨b, 0, none⟩ = some (.string (sB T)) ∧ w'.cell? ⟨b, 1, none⟩ = some (.int .i64 (a' : Int))) w1.drew := ⟨c0, c1⟩
  have HS := hide (And.intro hs (And.intro h1 (And.intro h2 (And.intro h3 (And.intro h4 k1)))))
  have hz : ((sB T).size : Int) = (T.length : Int) := rfl
  clear hs h1 h2 h3 h4 k1 c2 c3 c4 c5 c6 f1 f2 f3 f4 f5 f6
  go_wp2_with fail
  go_region_held3 (fun w' : World => w'.cell? ⟨b, 0, none⟩ = some (.string (sB T)) ∧ w'.cell? ⟨b, 1, none⟩ = some (.int .i64 (a' : Int))) (first | with_reducible exact S0 | with_reducible assumption) (fail)
  obtain ⟨hs, h1, h2, h3, h4, k1⟩ := HS.out
  have h5 : RdB w1.drew b T a' l' c k tx ln := h4
  have k5 : Keeps w w1.drew (fun i => i = b) := ((HK0.out.mono (fun _ _ q => q.elim)).trans k1 (fun _ _ q => q)).drew
  have hg5 : Tk3 w1.drew g (.int .i64 0) (.string ⟨#[]⟩) (.int .i64 0) := (k1.block g (heap_lt Hg.out) (fun q => Hgb.out q.symm)).trans Hg.out
  have hG5 : LgAt w1.drew := HH.out.1.keeps k5 (fun i q => q ▸ HH.out.2.1)
  have H5 := hide (And.intro hs (And.intro h1 (And.intro h2 (And.intro h3 (And.intro h5 (And.intro k5 (And.intro hg5 hG5)))))))
  have hlc := HH.out.2.2.2.2.2
  clear hs h1 h2 h3 h4 k1 h5 k5 hg5 hG5 HS HK0 Hg S0 c0 c1 hcut HH
  generalize w1.drew = W2 at *
  obtain ⟨hs, h1, h2, h3, h5, k5, hg5, hG5⟩ := H5.out
  obtain ⟨⟨c0, c1, c2, c3, c4, c5, c6⟩, f1, f2, f3, f4, f5, f6⟩ := h5.cells
  obtain ⟨⟨g0, g1, g2⟩, e0, e1, e2⟩ := hg5.cells
  clear hs h1 h2 h3 h5 k5 hg5 hG5
  by_cases hn : T.drop a' = []
  · have hE : ((sB (T.drop a')).toList == (⟨#[]⟩ : ByteArray).toList) = true := sB_yes (b := []) (by rw [hn]; rfl)
    go_wp2_with fail
    obtain ⟨hs, h1, h2, h3, h5, k5, hg5, hG5⟩ := H5.out
    refine set3 (P := fun W => bodyPost _ _ _ _ _ W) hg5 fun W3 h9 k9 => ?_
    obtain ⟨⟨q0, q1, q2⟩, -⟩ := h9.cells
    refine bodyPost_ret (v := .agg #[.int .i64 0, .string ⟨#[]⟩, .int .i64 (l' : Int)]) (by simp [results, Tryd.results63, go_sem, q0, q1, q2]) rfl ?_
    have kk : Keeps w W3 (fun i => i = b) := k5.trans k9 (fun i hi q => by have := hgz.out; subst q; omega)
    exact HP.out a' l' c ⟨0, [], l'⟩ [] W3 (toks0_end (by rw [hs, hn])) (fun q => absurd q (show ¬ 2 ≤ 0 by decide)) (Nat.zero_le _) h1 h2 h3 (by show l' ≤ T.length + 1; omega) (Nat.zero_le _) (h5.keeps k9 Hgb.out) kk
  · have hE : ((sB (T.drop a')).toList == (⟨#[]⟩ : ByteArray).toList) = false := sB_no (b := []) (by simpa using hn)
    have hE2 : (T.drop a').isEmpty = false := by rw [Bool.eq_false_iff]; simpa using hn
    have hc9 : (c : Int) ≤ 8192 := by have := hlc.1; omega
    have Hlc := hide hlc
    clear hlc
    go_upto_region 6 with fail
    obtain ⟨hs, h1, h2, h3, h5, k5, hg5, hG5⟩ := H5.out
    refine cnt_step (P := fun W => Code.wp _ _ _ _ W) h5 fun W3 h6 k6 => ?_
    have k7 : Keeps w W3 (fun i => i = b) := k5.trans k6 (fun _ _ q => q)
    have hg7 : Tk3 W3 g (.int .i64 0) (.string ⟨#[]⟩) (.int .i64 0) := (k6.block g (heap_lt hg5) (fun q => Hgb.out q.symm)).trans hg5
    have hG7 : LgAt W3 := hG5.keeps k6 (fun i q => q ▸ HI.out)
    have H7 := hide (And.intro hs (And.intro h1 (And.intro h2 (And.intro h3 (And.intro h6 (And.intro k7 (And.intro hg7 hG7)))))))
    clear hs h1 h2 h3 h5 k5 hg5 hG5 H5 k6 k7 hg7 hG7 c0 c1 c2 c3 c4 c5 c6 f1 f2 f3 f4 f5 f6 g0 g1 g2 e0 e1 e2
    obtain ⟨⟨c0, c1, c2, c3, c4, c5, c6⟩, f1, f2, f3, f4, f5, f6⟩ := h6.cells
    obtain ⟨hs, h1, h2, h3, h6, k7, hg7, hG7⟩ := H7.out
    obtain ⟨⟨g0, g1, g2⟩, e0, e1, e2⟩ := hg7.cells
    clear hs h1 h2 h3 h6 k7 hg7 hG7
    by_cases hc8 : c = 8192
    · have hq : (8192 : Int) < ((c + 1 : Nat) : Int) := by omega
      go_wp2_with fail
      obtain ⟨hs, h1, h2, h3, h6, k7, hg7, hG7⟩ := H7.out
      refine set3 (P := fun W => bodyPost _ _ _ _ _ W) hg7 fun W4 h9 k9 => ?_
      obtain ⟨⟨q0, q1, q2⟩, -⟩ := h9.cells
      refine bodyPost_ret (v := .agg #[.int .i64 1, .string ⟨#[]⟩, .int .i64 (l' : Int)]) (by simp [results, Tryd.results63, go_sem, q0, q1, q2]) rfl ?_
      have kk : Keeps w W4 (fun i => i = b) := k7.trans k9 (fun i hi q => by have := hgz.out; subst q; omega)
      exact HP.out a' l' (c + 1) ⟨1, [], l'⟩ [] W4 (toks0_odd hs hn (by omega)) (fun q => absurd q (show ¬ 2 ≤ 1 by decide)) (show 1 ≤ 4 by decide) h1 h2 h3 (by show l' ≤ T.length + 1; omega) (Nat.zero_le _) (h6.keeps k9 Hgb.out) kk
    · have hq : ¬ (8192 : Int) < ((c + 1 : Nat) : Int) := by have := Hlc.out; omega
      obtain ⟨hs, h1, h2, h3, h6, k7, hg7, hG7⟩ := H7.out
      have hft := firstToken_any (T.drop a') hn (by rw [List.length_drop]; have := Hlc.out.2; omega) W3 hG7.words hG7.marks
      have hfb := first_bounds hn
      have hfk := first_kind (T.drop a')
      have Hn := hide hn
      have hsz : a' + (firstD (T.drop a')).2 ≤ T.length := by
        have := hfb.2
        rw [List.length_drop] at this
        omega
      have hct := fun W => cut_to W (T.drop a') (firstD (T.drop a')).2 hfb.2
      have HN := hide (toks0_next (c := c) hs hn (by have := Hlc.out; omega))
      rw [List.drop_drop] at HN
      have Hf := hide (And.intro hfb (And.intro hfk hsz))
      have hs9 : ((firstD (T.drop a')).2 : Int) ≤ 1048576 := by have := Hlc.out.2; omega
      have ha9 : (a' : Int) ≤ 1048576 := by have := Hlc.out.2; omega
      clear hs h1 h2 h3 h6 k7 hg7 hG7 hn hfb hfk hsz
      have HTK : Hid (((T.drop a').take (firstD (T.drop a')).2).length ≤ T.length) := by
        show ((T.drop a').take (firstD (T.drop a')).2).length ≤ T.length
        rw [List.length_take, List.length_drop]
        omega
      generalize (T.drop a').take (firstD (T.drop a')).2 = tt at *
      generalize (firstD (T.drop a')).1 = kk at *
      generalize (firstD (T.drop a')).2 = sz at *
      go_upto_region 10 with (go_at_call 68; (with_reducible refine hft.mono ?_); rintro e w9 ⟨rfl, rfl⟩)
      obtain ⟨hs, h1, h2, h3, h6, k7, hg7, hG7⟩ := H7.out
      refine at_step (P := fun W => Code.wp _ _ _ _ W) h6 fun W4 h8 k8 => ?_
      have k9 : Keeps w W4.drew (fun i => i = b) := (k7.trans k8 (fun _ _ q => q)).drew
      have hg9 : Tk3 W4.drew g (.int .i64 0) (.string ⟨#[]⟩) (.int .i64 0) := (k8.block g (heap_lt hg7) (fun q => Hgb.out q.symm)).trans hg7
      have h9 : RdB W4.drew b T (a' + sz) l' (c + 1) k tx ln := h8
      have H9 := hide (And.intro hs (And.intro h1 (And.intro h2 (And.intro h3 (And.intro h9 (And.intro k9 hg9))))))
      clear hs h1 h2 h3 h6 k7 hg7 hG7 c0 c1 c2 c3 c4 c5 c6 f1 f2 f3 f4 f5 f6 g0 g1 g2 e0 e1 e2 k8
      obtain ⟨⟨c0, c1, c2, c3, c4, c5, c6⟩, f1, f2, f3, f4, f5, f6⟩ := h8.cells
      have hg8 : Tk3 W4 g (.int .i64 0) (.string ⟨#[]⟩) (.int .i64 0) := hg9
      obtain ⟨⟨g0, g1, g2⟩, e0, e1, e2⟩ := hg8.cells
      clear hg8 h8 h9 k9 hg9 c0 c1 c3 c4 c5 c6 f1 f2 f3 f4 f5 f6
      go_region
      all_goals (try go_wp2_with fail)
      obtain ⟨hs, h1, h2, h3, h9, k9, hg9⟩ := H9.out
      have hg8 : Tk3 W4 g (.int .i64 0) (.string ⟨#[]⟩) (.int .i64 0) := hg9
      have h8 : RdB W4 b T (a' + sz) l' (c + 1) k tx ln := h9
      refine set3 (P := fun W => bodyPost _ _ _ _ _ W.drew) hg8 fun W5 h11 k11 => ?_
      have k12 : Keeps w W5 (fun i => i = b) := by
        have k4 : Keeps w W4 (fun i => i = b) := ⟨k9.os, k9.tape, k9.output, k9.size, k9.block⟩
        exact k4.trans k11 (fun i hi q => by have := hgz.out; subst q; omega)
      have h12 : RdB W5.drew b T (a' + sz) l' (c + 1) k tx ln := h8.keeps k11.drew Hgb.out
      have hg12 : Tk3 W5.drew g (.int .i64 (kk : Int)) (.string (sB tt)) (.int .i64 (l' : Int)) := h11
      obtain ⟨⟨q0, q1, q2⟩, -⟩ := hg12.cells
      refine bodyPost_ret (v := .agg #[.int .i64 (kk : Int), .string (sB tt), .int .i64 (l' : Int)]) (by simp [results, Tryd.results63, go_sem, q0, q1, q2]) rfl ?_
      have hf := Hf.out
      have hll := Hlc.out
      exact HP.out (a' + sz) l' (c + 1) ⟨kk, tt, l'⟩ _ W5.drew HN.out (fun _ => ⟨rfl, by omega⟩) hf.2.1 (by omega) hf.2.2 (by omega) (by show l' ≤ T.length + 1; omega) HTK.out h12 k12.drew
end Lg
end Go.Proofs.YtlpfnikhnchpdaaDoor
/-
  lang: the reader with its tokens; is, met, take.
-/
namespace Go.Proofs.YtlpfnikhnchpdaaDoor
namespace Lg
open Go.RowKit
set_option linter.unusedVariables false
/-- A reader that looks at the first of these tokens. -/
def RAt (w : World) (b : Nat) (T : Bs) (ts : List Tk) : Prop :=
  ∃ (a l c : Nat) (t : Tk) (rest : List Tk), ts = t :: rest ∧ RdB w b T a l c t.kind t.text t.line ∧ (2 ≤ t.kind → rest = toks0 (T.drop a) l c ∧ c ≤ 8192) ∧ t.kind ≤ 4 ∧ a ≤ T.length ∧ l ≤ a + 1 ∧ t.line ≤ T.length + 1 ∧ t.text.length ≤ T.length ∧ (t.kind = 3 → Num t.text)
structure Ev (w : World) (b : Nat) (T : Bs) : Prop where
  lg : LgAt w
  hi : Hi b
  few : T.length ≤ 1048576
  rng : ∃ ev, w.cell? ⟨10, 0, none⟩ = some ev ∧ (ev = .nilIface ∨ ∃ te pe, ev = .iface te pe)
theorem Ev.keeps {w w' : World} {b : Nat} {T : Bs} (h : Ev w b T) {S : Nat → Prop} (k : Keeps w w' S) (hS : ∀ i, S i → Hi i) : Ev w' b T := by
  obtain ⟨ev, h1, h2⟩ := h.rng
  refine ⟨h.lg.keeps k hS, h.hi, h.few, ev, ?_, h2⟩
  have hb : 10 < w.heap.size := by
    refine Nat.lt_of_not_le fun hn => ?_
    rw [World.cell?, Array.getElem?_eq_none hn] at h1
    cases h1
  rw [World.cell?, k.block _ hb (fun q => Nat.lt_irrefl _ (hS _ q).2.2.2)]
  exact h1
theorem RAt.keeps {w w' : World} {b : Nat} {T : Bs} {ts : List Tk} (h : RAt w b T ts) {S : Nat → Prop} (k : Keeps w w' S) (hS : ¬ S b) : RAt w' b T ts := by
  obtain ⟨a, l, c, t, rest, rfl, h1, h2⟩ := h
  exact ⟨a, l, c, t, rest, rfl, h1.keeps k hS, h2⟩
theorem now_step {w : World} {b : Nat} {T : Bs} {a l c k : Nat} {tx : Bs} {ln k' : Nat} {tx' : Bs} {ln' : Nat} {P : World → Prop} (h : RdB w b T a l c k tx ln) (hp : ∀ W, RdB W b T a l c k' tx' ln' → Keeps w W (fun i => i = b) → P W) :
    P (((w.setCell ⟨b, 4, none⟩ (.int .i64 (k' : Int))).setCell ⟨b, 5, none⟩ (.string (sB tx'))).setCell ⟨b, 6, none⟩ (.int .i64 (ln' : Int))) := by
  have h1 := set_one' h 4 (.int .i64 (k' : Int)) (by simp)
  have h2 := set_one' h1 5 (.string (sB tx')) (by simp)
  exact hp _ (set_one' h2 6 (.int .i64 (ln' : Int)) (by simp)) ((((Keeps.refl w (fun i => i = b)).setCell _ (fun _ => rfl) _).setCell _ (fun _ => rfl) _).setCell _ (fun _ => rfl) _)
theorem kind_is {k n : Nat} {z : Int} (hz : z = (n : Int)) : ((k : Int) == z) = (k == n) := by
  subst hz
  cases h : k == n with
  | true =>
    have : k = n := by simpa using h
    simp [this]
  | false =>
    have : k ≠ n := by simpa using h
    rw [beq_eq_false_iff_ne]
    omega

set_option maxRecDepth 100000 in
set_option maxHeartbeats 1000000 in
theorem is_any {w : World} {b : Nat} {T : Bs} {ts : List Tk} (h : RAt w b T ts) (f : Bs) :
    Calls Tryd.prog 86 #[.pointer (some ⟨b, 0, none⟩), .string (sB f)] w fun e w' => e = .returned (.bool (isF f ts)) ∧ w' = w := by
  obtain ⟨a, l, c, t, rest, rfl, h1, -⟩ := h
  have e : isF f (t :: rest) = (t.kind == 4 && t.text == f) := rfl
  rw [e]
  clear e
  obtain ⟨⟨c0, c1, c2, c3, c4, c5, c6⟩, -⟩ := h1.cells
  clear h1 c0 c1 c2 c3 c6
  have hk := kind_is (k := t.kind) (n := 4) (z := 4) rfl
  cases h4 : t.kind == 4 with
  | true =>
    rw [h4] at hk
    cases h5 : t.text == f with
    | true =>
      clear h4
      go_enter Tryd.func86, Tryd.ntmps86
      go_wp2_with fail
      go_ret
      exact ⟨rfl, rfl⟩
    | false =>
      clear h4
      go_enter Tryd.func86, Tryd.ntmps86
      go_wp2_with fail
      go_ret
      exact ⟨rfl, rfl⟩
  | false =>
    rw [h4] at hk
    clear h4
    go_enter Tryd.func86, Tryd.ntmps86
    go_wp2_with fail
    go_ret
    exact ⟨rfl, rfl⟩

/-- What an advance leaves. -/
def AdvP (w : World) (b : Nat) (T : Bs) (ts : List Tk) (w' : World) : Prop := RAt w' b T ts ∧ Ev w' b T ∧ Keeps w w' (fun i => i = b)

set_option maxRecDepth 100000 in
set_option maxHeartbeats 1000000 in
theorem met_any {w : World} {b : Nat} {T : Bs} {ts : List Tk} (h : RAt w b T ts) (E : Ev w b T) (f : Bs) :
    Calls Tryd.prog 64 #[.pointer (some ⟨b, 0, none⟩), .string (sB f)] w fun e w' => e = .returned (.bool (isF f ts)) ∧ AdvP w b T (if isF f ts then ts.tail else ts) w' := by
  have his := is_any h f
  cases hf : isF f ts with
  | false =>
    rw [hf] at his
    have HF : Hid (AdvP w b T ts w) := ⟨h, E, Keeps.refl _ _⟩
    simp only [Bool.false_eq_true, if_false]
    clear h E hf
    go_enter Tryd.func64, Tryd.ntmps64
    go_wp2_with (go_at_call 86; (with_reducible refine his.mono ?_); rintro e w1 ⟨rfl, rfl⟩)
    go_ret
    exact ⟨rfl, HF.out⟩
  | true =>
    rw [hf] at his
    simp only [if_true]
    obtain ⟨a, l, c, t, rest, rfl, h1, h2, h3, h4, h5, h6, h7⟩ := h
    have hk : 2 ≤ t.kind := by
      have e : (t.kind == 4 && t.text == f) = true := hf
      simp only [Bool.and_eq_true, beq_iff_eq] at e
      omega
    obtain ⟨hr, hc⟩ := h2 hk
    have hsc := scan_any E.lg E.hi h1 h4 h5 hc E.few
    have HE := hide E
    have Hr := hide hr
    clear h1 h2 h3 h4 h5 h6 h7 hk hc hf hr E
    show Calls Tryd.prog 64 #[.pointer (some ⟨b, 0, none⟩), .string (sB f)] w fun e w' => e = .returned (.bool true) ∧ AdvP w b T rest w'
    generalize hQ : AdvP w b T rest = Q
    replace hQ := hide hQ
    go_enter Tryd.func64, Tryd.ntmps64
    go_upto_region 3 with (go_at_call 86; (with_reducible refine his.mono ?_); rintro e w1 ⟨rfl, rfl⟩)
    go_wp2_with fail
    refine hsc.mono ?_
    rintro e w1 ⟨a', l', c', t', rest', rfl, e1, e2, e3, e4, e5, e6, e7, e8, e9, k1⟩
    obtain ⟨⟨c0, c1, c2, c3, c4, c5, c6⟩, f1, f2, f3, f4, f5, f6⟩ := e9.cells
    have HH := hide (And.intro e1 (And.intro e2 (And.intro e3 (And.intro e4 (And.intro e5 (And.intro e6 (And.intro e7 (And.intro e8 (And.intro e9 k1)))))))))
    clear e1 e2 e3 e4 e5 e6 e7 e8 e9 k1 hsc his
    go_upto_region 4 with fail
    obtain ⟨e1, e2, e3, e4, e5, e6, e7, e8, e9, k1⟩ := HH.out
    refine now_step (P := fun W => Code.wp _ _ _ _ W) e9 fun W3 g1 k3 => ?_
    have kk := k1.trans k3 (fun _ _ q => q)
    have HF : Hid (Q W3) := by
      rw [← hQ.out]
      exact ⟨⟨a', l', c', t', rest', by rw [Hr.out, e1], g1, e2, e3, e5, e6, e7, e8, toks0_num e1⟩, HE.out.keeps kk (fun i q => q ▸ HE.out.hi), kk⟩
    clear e1 e2 e3 e4 e5 e6 e7 e8 e9 k1 g1 k3 kk
    go_wp2_with fail
    go_ret
    exact ⟨rfl, HF.out⟩
end Lg
end Go.Proofs.YtlpfnikhnchpdaaDoor
/-
  lang: giveUp; must.
-/
namespace Go.Proofs.YtlpfnikhnchpdaaDoor
namespace Lg
open Go.RowKit
set_option linter.unusedVariables false
/-- What a fault is thrown as. -/
def thrown (l e : Nat) : Ending := .panicked [{ v := .iface 83 (.agg #[.int .i64 (l : Int), .int .i64 (e : Int)]), recovered := false }]

set_option maxRecDepth 100000 in
set_option maxHeartbeats 1000000 in
theorem giveUp_any {w : World} {b : Nat} {T : Bs} {ts : List Tk} (h : RAt w b T ts) (n : Nat) :
    Calls Tryd.prog 87 #[.pointer (some ⟨b, 0, none⟩), .int .i64 (n : Int)] w fun e w' => e = thrown (hd ts).line n ∧ w' = w := by
  obtain ⟨a, l, c, t, rest, rfl, h1, -⟩ := h
  show Calls Tryd.prog 87 #[.pointer (some ⟨b, 0, none⟩), .int .i64 (n : Int)] w fun e w' => e = thrown t.line n ∧ w' = w
  obtain ⟨⟨c0, c1, c2, c3, c4, c5, c6⟩, -⟩ := h1.cells
  clear h1 c0 c1 c2 c3 c4 c5
  go_enter Tryd.func87, Tryd.ntmps87
  go_wp2_with fail
  exact ⟨rfl, rfl, rfl⟩

/-- What a part of the reader comes to: a result (and the reader stands at the tokens left), or a fault that is thrown. -/
def Part {α : Type} (w : World) (b : Nat) (T : Bs) (r : Rs α) (good : α → Value → World → Prop) (e : Ending) (w' : World) : Prop :=
  match r with
  | .ok a ts => ∃ v, e = .returned v ∧ good a v w' ∧ AdvP w b T ts w'
  | .no l n => e = thrown l n ∧ Ev w' b T ∧ Keeps w w' (fun i => i = b)
  | .out => True

set_option maxRecDepth 100000 in
set_option maxHeartbeats 1000000 in
theorem must_any {w : World} {b : Nat} {T : Bs} {ts : List Tk} (h : RAt w b T ts) (E : Ev w b T) (f : Bs) :
    Calls Tryd.prog 66 #[.pointer (some ⟨b, 0, none⟩), .string (sB f)] w (Part w b T (mustD f ts) fun _ v _ => v = .tuple #[]) := by
  have hm := met_any h E f
  unfold mustD
  cases hf : isF f ts with
  | true =>
    rw [hf] at hm
    simp only [if_true] at hm ⊢
    show Calls Tryd.prog 66 #[.pointer (some ⟨b, 0, none⟩), .string (sB f)] w fun e w' => ∃ v, e = .returned v ∧ v = .tuple #[] ∧ AdvP w b T ts.tail w'
    clear h E hf
    generalize AdvP w b T ts.tail = Q at *
    go_enter Tryd.func66, Tryd.ntmps66
    go_wp2_with (go_at_call 64; (with_reducible refine hm.mono ?_); rintro e w1 ⟨rfl, hq⟩)
    go_end0
    exact ⟨_, rfl, rfl, hq⟩
  | false =>
    rw [hf] at hm
    simp only [Bool.false_eq_true, if_false] at hm ⊢
    show Calls Tryd.prog 66 #[.pointer (some ⟨b, 0, none⟩), .string (sB f)] w fun e w' => e = thrown (hd ts).line 230 ∧ Ev w' b T ∧ Keeps w w' (fun i => i = b)
    have hg : ∀ W, RAt W b T ts → Calls Tryd.prog 87 #[.pointer (some ⟨b, 0, none⟩), .int .i64 230] W fun e w' => e = thrown (hd ts).line 230 ∧ w' = W := fun W h => giveUp_any h 230
    clear h E hf
    go_enter Tryd.func66, Tryd.ntmps66
    go_upto_region 1 with (go_at_call 64; (with_reducible refine hm.mono ?_); rintro e w1 ⟨rfl, hq⟩)
    have hg1 := hg _ hq.1
    go_wp2_with fail
    refine hg1.mono ?_
    rintro e w2 ⟨rfl, rfl⟩
    exact ⟨rfl, rfl, hq.2.1, hq.2.2⟩
end Lg
end Go.Proofs.YtlpfnikhnchpdaaDoor
/-
  lang: take; name.
-/
namespace Go.Proofs.YtlpfnikhnchpdaaDoor
namespace Lg
open Go.RowKit
set_option linter.unusedVariables false
theorem keepsB {w w' : World} (h : Below w.heap.size w w') : Keeps w w' (fun _ => False) := ⟨h.os, h.tape, h.output, h.size, fun k hk _ => h.block k hk⟩
theorem clone_any (s : Bs) (hs : s.length ≤ 281474976710656) (w : World) : Calls Tryd.prog 114 #[.string (sB s)] w fun e w' => e = .returned (.string (sB s)) ∧ Keeps w w' (fun _ => False) := by
  have hc := Tryd.stringslite_Clone (sB s) w hs
  go_enter Tryd.func114, Tryd.ntmps114
  go_wp2_with (go_at_call 122; (with_reducible refine hc.mono ?_); rintro e w1 ⟨rfl, k1⟩)
  go_ret
  exact ⟨rfl, keepsB k1⟩

set_option maxRecDepth 100000 in
set_option maxHeartbeats 1000000 in
theorem take_any {w : World} {b : Nat} {T : Bs} {t : Tk} {rest : List Tk} (h : RAt w b T (t :: rest)) (hk : 2 ≤ t.kind) (E : Ev w b T) :
    Calls Tryd.prog 88 #[.pointer (some ⟨b, 0, none⟩)] w fun e w' => e = .returned (.string (sB t.text)) ∧ AdvP w b T rest w' := by
  obtain ⟨a, l, c, t', rest', e, h1, h2, h3, h4, h5, h6, h7⟩ := h
  injection e with e1 e2
  subst e1
  subst e2
  obtain ⟨hr, hc⟩ := h2 hk
  have hcl := fun W => clone_any t.text (by have := E.few; have := h7.1; omega) W
  have hsc := fun W (hW : Keeps w W (fun _ => False)) => scan_any (E.lg.keeps hW (fun _ q => q.elim)) E.hi (h1.keeps hW id) h4 h5 hc E.few
  have HE := hide E
  have Hr := hide hr
  obtain ⟨⟨c0, c1, c2, c3, c4, c5, c6⟩, f1, f2, f3, f4, f5, f6⟩ := h1.cells
  clear h1 h2 h3 h4 h5 h6 h7 hk hc hr E c0 c1 c2 c3 c4 c6 f1 f2 f3 f4 f5 f6
  generalize hQ : AdvP w b T rest = Q
  replace hQ := hide hQ
  go_enter Tryd.func88, Tryd.ntmps88
  go_upto_region 2 with (go_at_call 114; (with_reducible refine (hcl _).mono ?_); rintro e w1 ⟨rfl, k1⟩)
  have hsc1 := hsc _ k1
  have K1 := hide k1
  clear hsc hcl c5 k1
  go_wp2_with fail
  refine hsc1.mono ?_
  rintro e w2 ⟨a', l', c', t', rest', rfl, e1, e2, e3, e4, e5, e6, e7, e8, e9, k2⟩
  obtain ⟨⟨c0, c1, c2, c3, c4, c5, c6⟩, f1, f2, f3, f4, f5, f6⟩ := e9.cells
  have HH := hide (And.intro e1 (And.intro e2 (And.intro e3 (And.intro e4 (And.intro e5 (And.intro e6 (And.intro e7 (And.intro e8 (And.intro e9 k2)))))))))
  clear e1 e2 e3 e4 e5 e6 e7 e8 e9 k2 hsc1
  go_upto_region 3 with fail
  obtain ⟨e1, e2, e3, e4, e5, e6, e7, e8, e9, k2⟩ := HH.out
  refine now_step (P := fun W => Code.wp _ _ _ _ W) e9 fun W3 g1 k3 => ?_
  have kk := (K1.out.mono (S1 := fun i => i = b) (fun _ _ q => q.elim)).trans (k2.trans k3 (fun _ _ q => q)) (fun _ _ q => q)
  have HF : Hid (Q W3) := by
    rw [← hQ.out]
    exact ⟨⟨a', l', c', t', rest', by rw [Hr.out, e1], g1, e2, e3, e5, e6, e7, e8, toks0_num e1⟩, HE.out.keeps kk (fun i q => q ▸ HE.out.hi), kk⟩
  clear e1 e2 e3 e4 e5 e6 e7 e8 e9 k2 g1 k3 kk
  go_wp2_with fail
  go_ret
  exact ⟨rfl, HF.out⟩

set_option maxRecDepth 100000 in
set_option maxHeartbeats 1000000 in
theorem name_any {w : World} {b : Nat} {T : Bs} {ts : List Tk} (h : RAt w b T ts) (E : Ev w b T) :
    Calls Tryd.prog 65 #[.pointer (some ⟨b, 0, none⟩)] w (Part w b T (nameD ts) fun s v _ => v = .string (sB s)) := by
  obtain ⟨t, rest, rfl⟩ : ∃ t rest, ts = t :: rest := by
    obtain ⟨a, l, c, t, rest, e, -⟩ := h
    exact ⟨t, rest, e⟩
  have hk := kind_is (k := t.kind) (n := 2) (z := 2) rfl
  obtain ⟨c4, -⟩ : w.cell? ⟨b, 4, none⟩ = some (.int .i64 (t.kind : Int)) ∧ True := by
    obtain ⟨a, l, c, t', rest', e, h1, -⟩ := h
    injection e with e1 e2
    subst e1
    obtain ⟨⟨c0, c1, c2, c3, c4, c5, c6⟩, -⟩ := h1.cells
    exact ⟨c4, trivial⟩
  cases hf : t.kind == 2 with
  | true =>
    have e : nameD (t :: rest) = .ok t.text rest := by
      show (if (t.kind == 2) = true then Rs.ok t.text rest else Rs.no t.line 230) = _
      rw [if_pos hf]
    rw [e]
    have ht := take_any h (by have : t.kind = 2 := by simpa using hf
                              omega) E
    rw [hf] at hk
    show Calls Tryd.prog 65 #[.pointer (some ⟨b, 0, none⟩)] w fun e w' => ∃ v, e = .returned v ∧ v = .string (sB t.text) ∧ AdvP w b T rest w'
    clear h E hf e
    generalize AdvP w b T rest = Q at *
    go_enter Tryd.func65, Tryd.ntmps65
    go_wp2_with (go_at_call 88; (with_reducible refine ht.mono ?_); rintro e w1 ⟨rfl, hq⟩)
    go_ret
    exact ⟨_, rfl, rfl, hq⟩
  | false =>
    have e : nameD (t :: rest) = .no t.line 230 := by
      show (if (t.kind == 2) = true then Rs.ok t.text rest else Rs.no t.line 230) = _
      rw [if_neg (by rw [hf]; decide)]
    rw [e]
    have hg : Calls Tryd.prog 87 #[.pointer (some ⟨b, 0, none⟩), .int .i64 230] w fun e w' => e = thrown t.line 230 ∧ w' = w := giveUp_any h 230
    rw [hf] at hk
    have HF : Hid (Ev w b T ∧ Keeps w w (fun i => i = b)) := ⟨E, Keeps.refl _ _⟩
    show Calls Tryd.prog 65 #[.pointer (some ⟨b, 0, none⟩)] w fun e w' => e = thrown t.line 230 ∧ Ev w' b T ∧ Keeps w w' (fun i => i = b)
    clear h E hf e
    go_enter Tryd.func65, Tryd.ntmps65
    go_wp2_with fail
    refine hg.mono ?_
    rintro e w2 ⟨rfl, rfl⟩
    exact ⟨rfl, rfl, HF.out⟩
end Lg
end Go.Proofs.YtlpfnikhnchpdaaDoor
namespace Go.Proofs
open Go.Shelf
def Tryd.laysC174_ren : Go.Shelf.Ren := ⟨fun | 174 => 139 | 247 => 140 | 245 => 141 | 287 => 142 | 279 => 143 | 280 => 144 | 281 => 145 | 282 => 146 | 321 => 147 | 322 => 148 | 316 => 122 | 171 => 150 | 205 => 149 | 243 => 151 | 246 => 119 | 283 => 124 | 284 => 125 | 285 => 126 | 286 => 127 | 129 => 131 | 317 => 130 | 318 => 132 | 319 => 133 | 320 => 134 | 337 => 137 | 338 => 138 | n => n, fun | 9 => 9 | 3 => 3 | 2 => 2 | 75 => 108 | 85 => 172 | 4 => 4 | 167 => 177 | 5 => 5 | 53 => 157 | 175 => 178 | 46 => 168 | 168 => 180 | 37 => 73 | 0 => 0 | 210 => 185 | 21 => 21 | 127 => 113 | 145 => 189 | 143 => 187 | 171 => 156 | 173 => 160 | 212 => 164 | 51 => 165 | 20 => 20 | 213 => 166 | 232 => 174 | 233 => 175 | 80 => 80 | n => n, fun | 15 => 9 | 16 => 10 | 17 => 5 | 18 => 7 | 19 => 8 | n => n⟩
theorem Tryd.laysC174 : Go.Proofs.LaysC.n174 Tryd.prog Tryd.laysC174_ren := {
  mixed := by kernel_rfl
  f129 := Tryd.func131.trans (congrArg some (by kernel_rfl))
  f171 := Tryd.func150.trans (congrArg some (by kernel_rfl))
  f174 := Tryd.func139.trans (congrArg some (by kernel_rfl))
  f205 := Tryd.func149.trans (congrArg some (by kernel_rfl))
  f243 := Tryd.func151.trans (congrArg some (by kernel_rfl))
  f245 := Tryd.func141.trans (congrArg some (by kernel_rfl))
  f246 := Tryd.func119.trans (congrArg some (by kernel_rfl))
  f247 := Tryd.func140.trans (congrArg some (by kernel_rfl))
  f279 := Tryd.func143.trans (congrArg some (by kernel_rfl))
  f280 := Tryd.func144.trans (congrArg some (by kernel_rfl))
  f281 := Tryd.func145.trans (congrArg some (by kernel_rfl))
  f282 := Tryd.func146.trans (congrArg some (by kernel_rfl))
  f283 := Tryd.func124.trans (congrArg some (by kernel_rfl))
  f284 := Tryd.func125.trans (congrArg some (by kernel_rfl))
  f285 := Tryd.func126.trans (congrArg some (by kernel_rfl))
  f286 := Tryd.func127.trans (congrArg some (by kernel_rfl))
  f287 := Tryd.func142.trans (congrArg some (by kernel_rfl))
  f316 := Tryd.func122.trans (congrArg some (by kernel_rfl))
  f317 := Tryd.func130.trans (congrArg some (by kernel_rfl))
  f318 := Tryd.func132.trans (congrArg some (by kernel_rfl))
  f319 := Tryd.func133.trans (congrArg some (by kernel_rfl))
  f320 := Tryd.func134.trans (congrArg some (by kernel_rfl))
  f321 := Tryd.func147.trans (congrArg some (by kernel_rfl))
  f322 := Tryd.func148.trans (congrArg some (by kernel_rfl))
  f337 := Tryd.func137.trans (congrArg some (by kernel_rfl))
  f338 := Tryd.func138.trans (congrArg some (by kernel_rfl))
  t0 := Tryd.underlying0
  a0 := Tryd.isAgg0
  z0 := Tryd.sizeOf0
  v0 := Tryd.zeroValue0
  t2 := Tryd.underlying2
  a2 := Tryd.isAgg2
  z2 := Tryd.sizeOf2
  v2 := Tryd.zeroValue2
  t3 := Tryd.underlying3
  a3 := Tryd.isAgg3
  z3 := Tryd.sizeOf3
  v3 := Tryd.zeroValue3
  t4 := Tryd.underlying4
  a4 := Tryd.isAgg4
  z4 := Tryd.sizeOf4
  v4 := Tryd.zeroValue4
  t5 := Tryd.underlying5
  a5 := Tryd.isAgg5
  z5 := Tryd.sizeOf5
  v5 := Tryd.zeroValue5
  t9 := Tryd.underlying9
  a9 := Tryd.isAgg9
  z9 := Tryd.sizeOf9
  v9 := Tryd.zeroValue9
  t20 := Tryd.underlying20
  a20 := Tryd.isAgg20
  z20 := Tryd.sizeOf20
  v20 := Tryd.zeroValue20
  t21 := Tryd.underlying21
  a21 := Tryd.isAgg21
  z21 := Tryd.sizeOf21
  v21 := Tryd.zeroValue21
  t37 := Tryd.underlying73
  a37 := Tryd.isAgg73
  z37 := Tryd.sizeOf73
  v37 := Tryd.zeroValue73
  t46 := Tryd.underlying168
  a46 := Tryd.isAgg168
  z46 := Tryd.sizeOf168
  v46 := Tryd.zeroValue168
  t51 := Tryd.underlying165
  a51 := Tryd.isAgg165
  z51 := Tryd.sizeOf165
  v51 := Tryd.zeroValue165
  t53 := Tryd.underlying157
  a53 := Tryd.isAgg157
  z53 := Tryd.sizeOf157
  v53 := Tryd.zeroValue157
  t75 := Tryd.underlying108
  a75 := Tryd.isAgg108
  z75 := Tryd.sizeOf108
  v75 := Tryd.zeroValue108
  t85 := Tryd.underlying172
  a85 := Tryd.isAgg172
  z85 := Tryd.sizeOf172
  v85 := Tryd.zeroValue172
  t127 := Tryd.underlying113
  a127 := Tryd.isAgg113
  z127 := Tryd.sizeOf113
  v127 := Tryd.zeroValue113
  t143 := Tryd.underlying187
  a143 := Tryd.isAgg187
  z143 := Tryd.sizeOf187
  v143 := Tryd.zeroValue187
  t145 := Tryd.underlying189
  a145 := Tryd.isAgg189
  z145 := Tryd.sizeOf189
  v145 := Tryd.zeroValue189
  t167 := Tryd.underlying177
  a167 := Tryd.isAgg177
  z167 := Tryd.sizeOf177
  v167 := Tryd.zeroValue177
  t168 := Tryd.underlying180
  a168 := Tryd.isAgg180
  z168 := Tryd.sizeOf180
  v168 := Tryd.zeroValue180
  t171 := Tryd.underlying156
  a171 := Tryd.isAgg156
  z171 := Tryd.sizeOf156
  v171 := Tryd.zeroValue156
  t173 := Tryd.underlying160
  a173 := Tryd.isAgg160
  z173 := Tryd.sizeOf160
  v173 := Tryd.zeroValue160
  t175 := Tryd.underlying178
  a175 := Tryd.isAgg178
  z175 := Tryd.sizeOf178
  v175 := Tryd.zeroValue178
  t210 := Tryd.underlying185
  a210 := Tryd.isAgg185
  z210 := Tryd.sizeOf185
  v210 := Tryd.zeroValue185
  t212 := Tryd.underlying164
  a212 := Tryd.isAgg164
  z212 := Tryd.sizeOf164
  v212 := Tryd.zeroValue164
  t213 := Tryd.underlying166
  a213 := Tryd.isAgg166
  z213 := Tryd.sizeOf166
  t232 := Tryd.underlying174
  a232 := Tryd.isAgg174
  z232 := Tryd.sizeOf174
  v232 := Tryd.zeroValue174
  t233 := Tryd.underlying175
  a233 := Tryd.isAgg175
  z233 := Tryd.sizeOf175
  v233 := Tryd.zeroValue175
  g15 := by kernel_rfl
  g16 := by kernel_rfl
  g17 := by kernel_rfl
  g18 := by kernel_rfl
  g19 := by kernel_rfl
  t80 := Tryd.underlying80
  a80 := Tryd.isAgg80
  z80 := Tryd.sizeOf80
  v80 := Tryd.zeroValue80
  i0 := by kernel_rfl
  i2 := by kernel_rfl
  i3 := by kernel_rfl
  i4 := by kernel_rfl
  i5 := by kernel_rfl
  i9 := by kernel_rfl
  i20 := by kernel_rfl
  i21 := by kernel_rfl
  i37 := by kernel_rfl
  i46 := by kernel_rfl
  i51 := by kernel_rfl
  i53 := by kernel_rfl
  i75 := by kernel_rfl
  i80 := by kernel_rfl
  i85 := by kernel_rfl
  i127 := by kernel_rfl
  i143 := by kernel_rfl
  i145 := by kernel_rfl
  i167 := by kernel_rfl
  i168 := by kernel_rfl
  i171 := by kernel_rfl
  i173 := by kernel_rfl
  i175 := by kernel_rfl
  i210 := by kernel_rfl
  i212 := by kernel_rfl
  i232 := by kernel_rfl
  i233 := by kernel_rfl
  m15 := by kernel_rfl
  m16 := by kernel_rfl
  m17 := by kernel_rfl
  m18 := by kernel_rfl
  m19 := by kernel_rfl
  c0 := by kernel_rfl
  c2 := by kernel_rfl
  c3 := by kernel_rfl
  c4 := by kernel_rfl
  c5 := by kernel_rfl
  c9 := by kernel_rfl
  c20 := by kernel_rfl
  c21 := by kernel_rfl
  c37 := by kernel_rfl
  c46 := by kernel_rfl
  c51 := by kernel_rfl
  c53 := by kernel_rfl
  c75 := by kernel_rfl
  c80 := by kernel_rfl
  c85 := by kernel_rfl
  c127 := by kernel_rfl
  c143 := by kernel_rfl
  c145 := by kernel_rfl
  c167 := by kernel_rfl
  c168 := by kernel_rfl
  c171 := by kernel_rfl
  c173 := by kernel_rfl
  c175 := by kernel_rfl
  c210 := by kernel_rfl
  c212 := by kernel_rfl
  c213 := by kernel_rfl
  c232 := by kernel_rfl
  c233 := by kernel_rfl }
open Go.RowKit in
theorem Tryd.strconv_ParseInt_10_at64_ok (s : ByteArray) (hmax : s.size ≤ 9223372036854775806) (v : Int) (h : Lib.parseIntB 64 s.data.toList = .ok v) (w : World) :
    Calls Tryd.prog 139 #[.string s, .int .i64 10, .int .i64 64] w fun e w' => e = .returned (.tuple #[.int .i64 v, .nilIface]) ∧ (w' = w ∨ ∃ t, w' = Lib.bytesWorld w 5 t) := Any.strconv_ParseInt_10_at64_ok Tryd.laysC174 s hmax v h w
open Go.RowKit in
theorem Tryd.strconv_ParseInt_10_at64_syntax (s : ByteArray) (hlim : s.size ≤ 281474976710656) (h : Lib.parseIntB 64 s.data.toList = .«syntax») (ev : Value) (w : World) (hv : w.cell? ⟨9, 0, none⟩ = some ev) (hev : ev = .nilIface ∨ ∃ te pe, ev = .iface te pe) :
    Calls Tryd.prog 139 #[.string s, .int .i64 10, .int .i64 64] w fun e w' => ∃ N, e = .returned (.tuple #[.int .i64 (0), .iface 180 (.pointer (some ⟨N, 0, none⟩))]) ∧ w.heap.size ≤ N ∧ w'.heap[N]? = some (.cells #[.string ⟨#[80, 97, 114, 115, 101, 73, 110, 116]⟩, .string s, ev] 185 (0, 0)) ∧ Below w.heap.size w w' := Any.strconv_ParseInt_10_at64_syntax Tryd.laysC174 s hlim h ev w hv hev
open Go.RowKit in
theorem Tryd.strconv_ParseInt_10_at64_range (s : ByteArray) (hlim : s.size ≤ 281474976710656) (h : Lib.parseIntB 64 s.data.toList = .range) (ev : Value) (w : World) (hv : w.cell? ⟨10, 0, none⟩ = some ev) (hev : ev = .nilIface ∨ ∃ te pe, ev = .iface te pe) :
    Calls Tryd.prog 139 #[.string s, .int .i64 10, .int .i64 64] w fun e w' => ∃ N, e = .returned (.tuple #[.int .i64 (Lib.intSat 64 s.data.toList), .iface 180 (.pointer (some ⟨N, 0, none⟩))]) ∧ w.heap.size ≤ N ∧ w'.heap[N]? = some (.cells #[.string ⟨#[80, 97, 114, 115, 101, 73, 110, 116]⟩, .string s, ev] 185 (0, 0)) ∧ Below w.heap.size w w' := Any.strconv_ParseInt_10_at64_range Tryd.laysC174 s hlim h ev w hv hev
open Go.RowKit in
theorem Tryd.strconv_ParseInt_10_at64_syntax_var (s : ByteArray) (hlim : s.size ≤ 281474976710656) (h : Lib.parseIntB 64 s.data.toList = .«syntax») (tp : TypeId) (p : Value) (w : World) (hvar : w.var? Tryd.prog "strconv.ErrSyntax" = some #[.iface tp p]) :
    Calls Tryd.prog 139 #[.string s, .int .i64 10, .int .i64 64] w fun e w' => ∃ N, e = .returned (.tuple #[.int .i64 (0), .iface 180 (.pointer (some ⟨N, 0, none⟩))]) ∧ w.heap.size ≤ N ∧ w'.heap[N]? = some (.cells #[.string ⟨#[80, 97, 114, 115, 101, 73, 110, 116]⟩, .string s, .iface tp p] 185 (0, 0)) ∧ Below w.heap.size w w' := Any.strconv_ParseInt_10_at64_syntax_var Tryd.laysC174 s hlim h tp p w hvar
open Go.RowKit in
theorem Tryd.strconv_ParseInt_10_at64_range_var (s : ByteArray) (hlim : s.size ≤ 281474976710656) (h : Lib.parseIntB 64 s.data.toList = .range) (tp : TypeId) (p : Value) (w : World) (hvar : w.var? Tryd.prog "strconv.ErrRange" = some #[.iface tp p]) :
    Calls Tryd.prog 139 #[.string s, .int .i64 10, .int .i64 64] w fun e w' => ∃ N, e = .returned (.tuple #[.int .i64 (Lib.intSat 64 s.data.toList), .iface 180 (.pointer (some ⟨N, 0, none⟩))]) ∧ w.heap.size ≤ N ∧ w'.heap[N]? = some (.cells #[.string ⟨#[80, 97, 114, 115, 101, 73, 110, 116]⟩, .string s, .iface tp p] 185 (0, 0)) ∧ Below w.heap.size w w' := Any.strconv_ParseInt_10_at64_range_var Tryd.laysC174 s hlim h tp p w hvar
end Go.Proofs
/-
  lang: number.
-/
namespace Go.Proofs.YtlpfnikhnchpdaaDoor
namespace Lg
open Go.RowKit
set_option linter.unusedVariables false
def valF (a : Nat) (l : Bs) : Nat := l.foldl (fun n c => 10 * n + (c.toNat - 48)) a
theorem valF_ge (l : Bs) : ∀ a, a ≤ valF a l := by
  induction l with
  | nil => intro a; exact Nat.le_refl _
  | cons x t ih =>
    intro a
    exact Nat.le_trans (by omega) (ih (10 * a + (x.toNat - 48)))
theorem parseM_dg (l : Bs) : ∀ a, (∀ x, x ∈ l → isDg x = true) → a ≤ 18446744073709551615 → Lib.parseUintM 18446744073709551615 a l = if valF a l ≤ 18446744073709551615 then .ok (valF a l) else .range := by
  induction l with
  | nil =>
    intro a _ ha
    rw [show valF a [] = a from rfl, if_pos ha]
    rfl
  | cons x t ih =>
    intro a h ha
    have h1 : 48 ≤ x.toNat ∧ x.toNat ≤ 57 := by simpa [isDg] using h x List.mem_cons_self
    have e : valF a (x :: t) = valF (10 * a + (x.toNat - 48)) t := rfl
    have hm := valF_ge t (10 * a + (x.toNat - 48))
    rw [e]
    simp only [Lib.parseUintM]
    rw [if_pos h1]
    have ec : a * 10 = 10 * a := Nat.mul_comm _ _
    split
    · rw [if_neg (by omega)]
    · split
      · rw [if_neg (by omega)]
      · rw [ec]
        exact ih _ (fun y hy => h y (List.mem_cons_of_mem _ hy)) (by omega)
theorem parse_dg {s : Bs} (h : Num s) : Lib.parseIntB 64 s = if valD s ≤ 9223372036854775807 then .ok (valD s : Int) else .range := by
  obtain ⟨h0, h1⟩ := h
  cases s with
  | nil => exact absurd rfl h0
  | cons c r =>
    have hc : 48 ≤ c.toNat ∧ c.toNat ≤ 57 := by simpa [isDg] using h1 c List.mem_cons_self
    have hu : Lib.parseUintB 64 (c :: r) = if valF 0 (c :: r) ≤ 18446744073709551615 then .ok (valF 0 (c :: r)) else .range := by
      unfold Lib.parseUintB
      rw [if_neg (by simp)]
      exact parseM_dg _ 0 h1 (by omega)
    have ev : valD (c :: r) = valF 0 (c :: r) := rfl
    rw [ev]
    unfold Lib.parseIntB
    dsimp only
    rw [if_neg (show ¬ (c.toNat = 43 ∨ c.toNat = 45) by omega), hu]
    have hn : ¬ c.toNat = 45 := by omega
    by_cases h5 : valF 0 (c :: r) ≤ 18446744073709551615
    · rw [if_pos h5]
      dsimp only
      by_cases h6 : valF 0 (c :: r) ≤ 9223372036854775807
      · rw [if_pos h6, if_neg (fun q => by have : 2 ^ (64 - 1) ≤ valF 0 (c :: r) := q.2; have e9 : (2 : Nat) ^ (64 - 1) = 9223372036854775808 := by decide
                                           omega), if_neg (fun q => hn q.1), if_neg hn]
      · rw [if_neg h6, if_pos ⟨hn, by have e9 : (2 : Nat) ^ (64 - 1) = 9223372036854775808 := by decide
                                      omega⟩]
    · rw [if_neg h5, if_neg (by omega)]
theorem parseInt_any {s : Bs} (h : Num s) (hs : s.length ≤ 1048576) (w : World) (he : ∃ ev, w.cell? ⟨10, 0, none⟩ = some ev ∧ (ev = .nilIface ∨ ∃ te pe, ev = .iface te pe)) :
    Calls Tryd.prog 139 #[.string (sB s), .int .i64 10, .int .i64 64] w fun e w' => (if valD s ≤ 9223372036854775807 then e = .returned (.tuple #[.int .i64 (valD s : Int), .nilIface]) else ∃ n te pe, e = .returned (.tuple #[.int .i64 n, .iface te pe])) ∧ Keeps w w' (fun _ => False) := by
  have hz : (sB s).size = s.length := rfl
  have hp := parse_dg h
  by_cases h9 : valD s ≤ 9223372036854775807
  · rw [if_pos h9] at hp
    refine (Tryd.strconv_ParseInt_10_at64_ok (sB s) (by omega) _ hp w).mono ?_
    rintro e w' ⟨rfl, hw⟩
    rw [if_pos h9]
    refine ⟨rfl, ?_⟩
    rcases hw with rfl | ⟨t, rfl⟩
    · exact Keeps.refl _ _
    · exact keepsB (Lib.bytesWorld_below w 5 t)
  · rw [if_neg h9] at hp
    obtain ⟨ev, h1, h2⟩ := he
    refine (Tryd.strconv_ParseInt_10_at64_range (sB s) (by omega) hp ev w h1 h2).mono ?_
    rintro e w' ⟨N, rfl, -, -, hb⟩
    rw [if_neg h9]
    exact ⟨⟨_, _, _, rfl⟩, keepsB hb⟩

set_option maxRecDepth 100000 in
set_option maxHeartbeats 1000000 in
theorem number_any {w : World} {b : Nat} {T : Bs} {t : Tk} {rest : List Tk} (h : RAt w b T (t :: rest)) (hk : t.kind = 3) (E : Ev w b T) :
    Calls Tryd.prog 136 #[.pointer (some ⟨b, 0, none⟩)] w (Part w b T (numberD (t :: rest)) fun n v _ => v = .int .i64 n) := by
  have hg := fun (W : World) (k : Keeps w W (fun _ => False)) => giveUp_any (h.keeps k id) 161
  obtain ⟨a, l, c, t', rest', e, h1, h2, h3, h4, h5, h6, h7, h8⟩ := h
  injection e with e1 e2
  subst e1
  subst e2
  obtain ⟨hr, hc⟩ := h2 (by omega)
  have hpi := parseInt_any (h8 hk) (by have := E.few; omega) w E.rng
  have hsc := fun W (hW : Keeps w W (fun _ => False)) => scan_any (E.lg.keeps hW (fun _ q => q.elim)) E.hi (h1.keeps hW id) h4 h5 hc E.few
  have HE := hide E
  have Hr := hide hr
  obtain ⟨⟨c0, c1, c2, c3, c4, c5, c6⟩, f1, f2, f3, f4, f5, f6⟩ := h1.cells
  clear h1 h2 h3 h4 h5 h6 h7 h8 hk hc hr E c0 c1 c2 c3 c4 c6 f1 f2 f3 f4 f5 f6
  by_cases h9 : valD t.text ≤ 9223372036854775807
  · have e : numberD (t :: rest) = .ok (valD t.text : Int) rest := by
      show (if valD t.text ≤ 9223372036854775807 then Rs.ok (valD t.text : Int) rest else Rs.no t.line 161) = _
      rw [if_pos h9]
    rw [e]
    simp only [if_pos h9] at hpi
    show Calls Tryd.prog 136 #[.pointer (some ⟨b, 0, none⟩)] w fun e w' => ∃ v, e = .returned v ∧ v = .int .i64 (valD t.text : Int) ∧ AdvP w b T rest w'
    clear e h9 hg
    generalize (valD t.text : Int) = x at *
    generalize hQ : AdvP w b T rest = Q
    replace hQ := hide hQ
    go_enter Tryd.func136, Tryd.ntmps136
    go_upto_region 2 with (go_at_call 139; (with_reducible refine hpi.mono ?_); rintro e w1 ⟨rfl, k1⟩)
    have hsc1 := hsc _ k1
    have K1 := hide k1
    clear hsc hpi c5 k1
    go_wp2_with fail
    refine hsc1.mono ?_
    rintro e w2 ⟨a', l', c', t', rest', rfl, e1, e2, e3, e4, e5, e6, e7, e8, e9, k2⟩
    obtain ⟨⟨c0, c1, c2, c3, c4, c5, c6⟩, f1, f2, f3, f4, f5, f6⟩ := e9.cells
    have HH := hide (And.intro e1 (And.intro e2 (And.intro e3 (And.intro e4 (And.intro e5 (And.intro e6 (And.intro e7 (And.intro e8 (And.intro e9 k2)))))))))
    clear e1 e2 e3 e4 e5 e6 e7 e8 e9 k2 hsc1
    go_upto_region 5 with fail
    obtain ⟨e1, e2, e3, e4, e5, e6, e7, e8, e9, k2⟩ := HH.out
    refine now_step (P := fun W => Code.wp _ _ _ _ W) e9 fun W3 g1 k3 => ?_
    have kk := (K1.out.mono (S1 := fun i => i = b) (fun _ _ q => q.elim)).trans (k2.trans k3 (fun _ _ q => q)) (fun _ _ q => q)
    have HF : Hid (Q W3) := by
      rw [← hQ.out]
      exact ⟨⟨a', l', c', t', rest', by rw [Hr.out, e1], g1, e2, e3, e5, e6, e7, e8, toks0_num e1⟩, HE.out.keeps kk (fun i q => q ▸ HE.out.hi), kk⟩
    clear e1 e2 e3 e4 e5 e6 e7 e8 e9 k2 g1 k3 kk
    go_wp2_with fail
    go_ret
    exact ⟨_, rfl, rfl, HF.out⟩
  · have e : numberD (t :: rest) = .no t.line 161 := by
      show (if valD t.text ≤ 9223372036854775807 then Rs.ok (valD t.text : Int) rest else Rs.no t.line 161) = _
      rw [if_neg h9]
    rw [e]
    simp only [if_neg h9] at hpi
    show Calls Tryd.prog 136 #[.pointer (some ⟨b, 0, none⟩)] w fun e w' => e = thrown t.line 161 ∧ Ev w' b T ∧ Keeps w w' (fun i => i = b)
    clear e h9 hsc
    go_enter Tryd.func136, Tryd.ntmps136
    go_upto_region 2 with (go_at_call 139; (with_reducible refine hpi.mono ?_); rintro e w1 ⟨⟨x, te, pe, rfl⟩, k1⟩)
    have hg1 : Calls Tryd.prog 87 #[.pointer (some ⟨b, 0, none⟩), .int .i64 161] _ fun e w' => e = thrown t.line 161 ∧ w' = _ := hg _ k1
    have HF := hide (And.intro (HE.out.keeps k1 (fun _ q => q.elim)) (k1.mono (S1 := fun i => i = b) (fun _ _ q => q.elim)))
    clear k1 hg hpi c5
    go_wp2_with fail
    refine hg1.mono ?_
    rintro e w2 ⟨rfl, rfl⟩
    exact ⟨rfl, rfl, HF.out⟩
end Lg
end Go.Proofs.YtlpfnikhnchpdaaDoor
/-
  lang: expressions as they lie in memory; isUnary.
-/
namespace Go.Proofs.YtlpfnikhnchpdaaDoor
namespace Lg
open Go.RowKit
set_option linter.unusedVariables false
mutual
/-- An expression's five cells; its parts lie in blocks from B on. -/
inductive ExC (w : World) (P : Nat → Prop) : Ex → List Value → Prop
  | mk {k n : Int} {nm op : Bs} {args : List Ex} {sv : Value} (h : ArgsV w P args sv) : ExC w P (.mk k n nm op args) [.int .i64 k, .int .i64 n, .string (sB nm), .string (sB op), sv]
inductive ArgsV (w : World) (P : Nat → Prop) : List Ex → Value → Prop
  | nil : ArgsV w P [] (.slice none 0 0)
  | some {g c : Nat} {args : List Ex} {cells : List Value} (hg : P g) (hl : g < w.heap.size) (hc : args.length ≤ c) (hr : w.rangeAt g 0 cells) (h : ExsC w P args cells) : ArgsV w P args (.slice (.some ⟨g, 0, none⟩) args.length c)
inductive ExsC (w : World) (P : Nat → Prop) : List Ex → List Value → Prop
  | nil : ExsC w P [] []
  | cons {x : Ex} {r : List Ex} {c d : List Value} (hx : ExC w P x c) (hr : ExsC w P r d) : ExsC w P (x :: r) (c ++ d)
end
mutual
theorem ExC.keeps {w w' : World} {P : Nat → Prop} {S : Nat → Prop} (k : Keeps w w' S) (hS : ∀ i, P i → ¬ S i) : ∀ {x : Ex} {c : List Value}, ExC w P x c → ExC w' P x c
  | _, _, .mk h => .mk (ArgsV.keeps k hS h)
theorem ArgsV.keeps {w w' : World} {P : Nat → Prop} {S : Nat → Prop} (k : Keeps w w' S) (hS : ∀ i, P i → ¬ S i) : ∀ {l : List Ex} {v : Value}, ArgsV w P l v → ArgsV w' P l v
  | _, _, .nil => .nil
  | _, _, .some hg hl hc hr h => .some hg (Nat.lt_of_lt_of_le hl k.size) hc (range_keeps hr k (hS _ hg)) (ExsC.keeps k hS h)
theorem ExsC.keeps {w w' : World} {P : Nat → Prop} {S : Nat → Prop} (k : Keeps w w' S) (hS : ∀ i, P i → ¬ S i) : ∀ {l : List Ex} {c : List Value}, ExsC w P l c → ExsC w' P l c
  | _, _, .nil => .nil
  | _, _, .cons hx hr => .cons (ExC.keeps k hS hx) (ExsC.keeps k hS hr)
end
mutual
theorem ExC.mono {w : World} {P P' : Nat → Prop} (h : ∀ i, P i → P' i) : ∀ {x : Ex} {c : List Value}, ExC w P x c → ExC w P' x c
  | _, _, .mk q => .mk (ArgsV.mono h q)
theorem ArgsV.mono {w : World} {P P' : Nat → Prop} (h : ∀ i, P i → P' i) : ∀ {l : List Ex} {v : Value}, ArgsV w P l v → ArgsV w P' l v
  | _, _, .nil => .nil
  | _, _, .some hg hl hc hr q => .some (h _ hg) hl hc hr (ExsC.mono h q)
theorem ExsC.mono {w : World} {P P' : Nat → Prop} (h : ∀ i, P i → P' i) : ∀ {l : List Ex} {c : List Value}, ExsC w P l c → ExsC w P' l c
  | _, _, .nil => .nil
  | _, _, .cons hx hr => .cons (ExC.mono h hx) (ExsC.mono h hr)
end
mutual
theorem ExC.under {w : World} {P : Nat → Prop} : ∀ {x : Ex} {c : List Value}, ExC w P x c → ExC w (fun i => P i ∧ i < w.heap.size) x c
  | _, _, .mk q => .mk (ArgsV.under q)
theorem ArgsV.under {w : World} {P : Nat → Prop} : ∀ {l : List Ex} {v : Value}, ArgsV w P l v → ArgsV w (fun i => P i ∧ i < w.heap.size) l v
  | _, _, .nil => .nil
  | _, _, .some hg hl hc hr q => .some ⟨hg, hl⟩ hl hc hr (ExsC.under q)
theorem ExsC.under {w : World} {P : Nat → Prop} : ∀ {l : List Ex} {c : List Value}, ExsC w P l c → ExsC w (fun i => P i ∧ i < w.heap.size) l c
  | _, _, .nil => .nil
  | _, _, .cons hx hr => .cons (ExC.under hx) (ExsC.under hr)
end
theorem ArgsV.form {w : World} {P : Nat → Prop} {l : List Ex} {v : Value} (h : ArgsV w P l v) : ∃ p n c, v = .slice p n c := by
  cases h with
  | nil => exact ⟨_, _, _, rfl⟩
  | some => exact ⟨_, _, _, rfl⟩
theorem range_blk {w : World} {g : Nat} {cs : Array Value} {t : TypeId} (h : w.heap[g]? = some (.cells cs t)) : w.rangeAt g 0 cs.toList := fun j v hv => by
  simp only [World.cell?, h, Nat.zero_add]
  simpa using hv
/-- A value that is an expression. -/
def ExG (B : Nat) (x : Ex) (v : Value) (w : World) : Prop := ∃ cs : List Value, v = .agg cs.toArray ∧ ExC w (fun i => B ≤ i) x cs

set_option maxRecDepth 100000 in
set_option maxHeartbeats 1000000 in
theorem isUnary_any (s : Bs) (w : World) : Calls Tryd.prog 100 #[.string (sB s)] w fun e w' => e = .returned (.bool (s == [45] || s == [33])) ∧ w' = w := by
  have hk : ((sB s).toList == (sB [45]).toList) = (s == [45]) := by simp [ByteArray.toList_eq, sB]
  cases h1 : s == [45] with
  | true =>
    go_enter Tryd.func100, Tryd.ntmps100
    go_wp2_with fail
    go_ret
    exact ⟨rfl, rfl⟩
  | false =>
    cases h2 : s == [33] with
    | true =>
      go_enter Tryd.func100, Tryd.ntmps100
      go_wp2_with fail
      go_ret
      exact ⟨rfl, rfl⟩
    | false =>
      go_enter Tryd.func100, Tryd.ntmps100
      go_wp2_with fail
      go_ret
      exact ⟨rfl, rfl⟩
end Lg
end Go.Proofs.YtlpfnikhnchpdaaDoor
