import Derived.Test.YtmdnknbolgedgaaGreatDoorUn9
/-
  Stat.
-/
namespace Go.Proofs.YtmdnknbolgedgaaGreatDoor
open Go.RowKit Go.Shelf Ly Ct
set_option linter.unusedVariables false

/-- A word of the header, as it is read. -/
def hdr (d : AD) (off i : Nat) : Int := wrap64 ((numOf (d.span ((off : Int) + (i : Int) * 8) 8) : Nat) : Int)
def statV (f : Nat → Int) : Value := .agg #[.int .i64 (f 3), .int .i64 (f 4), .int .i64 (f 5), .int .i64 (f 6), .int .i64 (f 1), .int .i64 (f 2), .bool (f 0 == 4), .int .i64 (f 7)]
def stat0 : Value := .agg #[.int .i64 0, .int .i64 0, .int .i64 0, .int .i64 0, .int .i64 0, .int .i64 0, .bool false, .int .i64 0]

theorem st8_cells {w : World} {b : Nat} {v0 v1 v2 v3 v4 v5 v6 v7 : Value} {t : TypeId} (h : w.heap[b]? = some (.cells #[v0, v1, v2, v3, v4, v5, v6, v7] t)) :
    (w.cell? ⟨b, 0, none⟩ = some v0 ∧ w.cell? ⟨b, 1, none⟩ = some v1 ∧ w.cell? ⟨b, 2, none⟩ = some v2 ∧ w.cell? ⟨b, 3, none⟩ = some v3 ∧ w.cell? ⟨b, 4, none⟩ = some v4 ∧ w.cell? ⟨b, 5, none⟩ = some v5 ∧ w.cell? ⟨b, 6, none⟩ = some v6 ∧ w.cell? ⟨b, 7, none⟩ = some v7) ∧ w.frozen? ⟨b, 0, none⟩ = false ∧ w.frozen? ⟨b, 1, none⟩ = false ∧ w.frozen? ⟨b, 2, none⟩ = false ∧ w.frozen? ⟨b, 3, none⟩ = false ∧ w.frozen? ⟨b, 4, none⟩ = false ∧ w.frozen? ⟨b, 5, none⟩ = false ∧ w.frozen? ⟨b, 6, none⟩ = false ∧ w.frozen? ⟨b, 7, none⟩ = false := by
  simp [World.cell?, World.frozen?, h]
theorem st8_set {w0 w : World} {b : Nat} {u0 u1 u2 u3 u4 u5 u6 u7 : Value} {t : TypeId} {S : Nat → Prop} (h : w.heap[b]? = some (.cells #[u0, u1, u2, u3, u4, u5, u6, u7] t)) (k : Keeps w0 w S) (hb : b < w0.heap.size → S b)
    {v0 v1 v2 v3 v4 v5 v6 v7 : Value} {P : World → Prop} (hP : ∀ w9, w9.heap[b]? = some (.cells #[v0, v1, v2, v3, v4, v5, v6, v7] t) → Keeps w0 w9 S → Keeps w w9 (fun i => i = b) → P w9) :
    P ((((((((w.setCell ⟨b, 0, none⟩ v0).setCell ⟨b, 1, none⟩ v1).setCell ⟨b, 2, none⟩ v2).setCell ⟨b, 3, none⟩ v3).setCell ⟨b, 4, none⟩ v4).setCell ⟨b, 5, none⟩ v5).setCell ⟨b, 6, none⟩ v6).setCell ⟨b, 7, none⟩ v7) := by
  refine hP _ ?_ ?_ ?_
  · have h0 := set_one' h 0 v0 (by simp)
    have h1 := set_one' h0 1 v1 (by simp)
    have h2 := set_one' h1 2 v2 (by simp)
    have h3 := set_one' h2 3 v3 (by simp)
    have h4 := set_one' h3 4 v4 (by simp)
    have h5 := set_one' h4 5 v5 (by simp)
    have h6 := set_one' h5 6 v6 (by simp)
    have h7 := set_one' h6 7 v7 (by simp)
    exact h7
  · exact ((((((((k.setCell _ hb _).setCell _ hb _).setCell _ hb _).setCell _ hb _).setCell _ hb _).setCell _ hb _).setCell _ hb _).setCell _ hb _)
  · exact (((((((((Keeps.refl w (fun i => i = b)).setCell _ (fun _ => rfl) _).setCell _ (fun _ => rfl) _).setCell _ (fun _ => rfl) _).setCell _ (fun _ => rfl) _).setCell _ (fun _ => rfl) _).setCell _ (fun _ => rfl) _).setCell _ (fun _ => rfl) _).setCell _ (fun _ => rfl) _)
theorem alloc3 {w : World} {o1 o2 o3 : Obj} {P : World → Prop} (h : ∀ W0, W0.heap[w.heap.size]? = some o1 → W0.heap[w.heap.size + 1]? = some o2 → W0.heap[w.heap.size + 1 + 1]? = some o3 → W0.heap.size = w.heap.size + 3 → Keeps w W0 (fun _ => False) → P W0) : P (((w.alloc o1).alloc o2).alloc o3) := by
  have e1 : ((w.alloc o1).alloc o2).heap[w.heap.size]? = some o1 := (Below.heap_alloc _ _ _ (by simp)).trans (heap_alloc_new _ _)
  have e2 : ((w.alloc o1).alloc o2).heap[w.heap.size + 1]? = some o2 := by have := heap_alloc_new (w.alloc o1) o2; simpa using this
  have e3 := heap_alloc_new ((w.alloc o1).alloc o2) o3
  refine h _ ((Below.heap_alloc _ _ _ (heap_lt e1)).trans e1) ((Below.heap_alloc _ _ _ (heap_lt e2)).trans e2) (by simpa using e3) (by simp) ((((Keeps.refl _ _).alloc _).alloc _).alloc _)
/-- The first i words of eight are read. -/
def Got (W : World) (b : Nat) (t : TypeId) (f : Nat → Int) (i : Nat) : Prop := ∃ cs : Array Value, W.heap[b]? = some (.cells cs t) ∧ cs.size = 8 ∧ ∀ j, j < i → cs[j]? = some (.int .i64 (f j))
section
variable {W W' : World} {b : Nat} {t : TypeId} {f : Nat → Int} {i : Nat}
theorem Got.cell (h : Got W b t f i) {j : Nat} (hj : j < 8) : (∃ v, W.cell? ⟨b, j, none⟩ = some v) ∧ W.frozen? ⟨b, j, none⟩ = false := by
  obtain ⟨cs, h1, h2, _⟩ := h
  exact ⟨⟨cs[j]'(by omega), by simp [World.cell?, h1, h2, hj]⟩, by simp [World.frozen?, h1]⟩
theorem Got.step (h : Got W b t f i) (hi : i < 8) : Got (W.setCell ⟨b, i, none⟩ (.int .i64 (f i))) b t f (i + 1) := by
  obtain ⟨cs, h1, h2, h3⟩ := h
  refine ⟨cs.set i (.int .i64 (f i)) (by omega), set_one' h1 i _ (by omega), by simp [h2], fun j hj => ?_⟩
  by_cases e : j = i
  · subst e
    simp
  · rw [Array.getElem?_set_ne (by omega) (by omega)]
    exact h3 j (by omega)
theorem Got.kept (h : Got W b t f i) (k : W'.heap[b]? = W.heap[b]?) : Got W' b t f i := by
  obtain ⟨cs, h1, h2⟩ := h
  exact ⟨cs, k.trans h1, h2⟩
theorem Got.all (h : Got W b t f 8) {j : Nat} (hj : j < 8) : W.cell? ⟨b, j, none⟩ = some (.int .i64 (f j)) := by
  obtain ⟨cs, h1, h2, h3⟩ := h
  have := h3 j hj
  simp [World.cell?, h1, this]
end

set_option maxRecDepth 100000 in
set_option maxHeartbeats 4000000 in
theorem stat_yes {w : World} {p : Nat} {F : Nat → Prop} {d : AD} (hA : Arena w p F d) (hF : d.Fine) (l : Lay) (off : Nat) (hg : d.goodB (off : Int) 64 = true) (h1 : off ≤ 134217728) :
    Calls Tryz.prog 23 #[.agg #[.pointer (some ⟨p, 0, none⟩), .int .i64 l.k, .int .i64 l.e, .int .i64 l.a, .int .i64 l.b, .int .i64 l.c, .int .i64 l.eo, .int .i64 l.bo, .int .i64 l.s, .int .i64 l.g, .int .i64 (off : Int)]] w fun e w' => e = .returned (.tuple #[statV (hdr d off), .int .i64 0]) ∧ Keeps w w' (fun _ => False) := by
  obtain ⟨c, hc, hfo⟩ := hA.at
  have hT := fun (i : Nat) (hi : i < 8) W => tat_any p l (off : Int) (i : Int) W (by omega) (by omega) (by omega) (by omega)
  have hL := fun (i : Nat) (hi : i < 8) W (k : Keeps w W (fun _ => False)) => aload_any (hc.keeps k (fun _ _ e => e)) hF ((off : Int) + (i : Int) * 8) 8 (fitsI_mk (by omega) (by omega)) (fitsI_mk (by omega) (by omega))
  have hx : ∀ i : Nat, i < 8 → loadV d ((off : Int) + (i : Int) * 8) 8 = (((numOf (d.span ((off : Int) + (i : Int) * 8) 8) : Nat) : Int), 0) := fun i hi => by
    have hg8 := good_sub hg (x := (i : Int) * 8) (m := 8) (by omega) (by omega) (by omega)
    unfold loadV
    rw [hg8]
    rfl
  have hf : ∀ i, hdr d off i = wrap64 ((numOf (d.span ((off : Int) + (i : Int) * 8) 8) : Nat) : Int) := fun i => rfl
  unfold statV
  generalize hdr d off = f at *
  have hLf : Hid (∀ (i : Nat), i < 8 → ∀ W, Keeps w W (fun _ => False) → ∃ n : Nat, f i = wrap64 (n : Int) ∧ Calls Tryz.prog 24 #[.pointer (some ⟨p, 0, none⟩), .int .i64 ((off : Int) + (i : Int) * 8), .int .i64 8] W fun e w' => e = .returned (.tuple #[.int .u64 (n : Int), .int .i64 0]) ∧ Keeps W w' (fun _ => False)) := fun i hi W k => by
    refine ⟨_, hf i, ?_⟩
    have := hL i hi W k
    rw [hx i hi] at this
    exact this
  clear hL hx hf hc hfo hA hg hF
  go_enter Tryz.func23, Tryz.ntmps23
  go_wp2_with fail
  refine alloc3 (P := fun W => Code.wp _ _ _ _ W) fun W0 hb hr ha hz K0 => ?_
  go_loopg [8] 8 (fun g v8 wr => ∃ i : Nat, g = 8 - i ∧ i ≤ 8 ∧ v8 = .int .i64 (i : Int) ∧ Got wr (w.heap.size + 1 + 1) 119 f i ∧ Keeps W0 wr (fun k => k = w.heap.size + 1 + 1))
  case atStart => exact ⟨0, rfl, Nat.zero_le _, rfl, ⟨_, ha, rfl, fun j hj => by omega⟩, Keeps.refl _ _⟩
  case round =>
    obtain ⟨i, rfl, hi, rfl, hG, kr⟩ := hrel
    by_cases hlt : i < 8
    · have hlt' : (i : Int) < 8 := by omega
      have hbr := (kr.block w.heap.size (by omega) (by omega)).trans hb
      have Kw : Keeps w wr (fun _ => False) := ⟨kr.os.trans K0.os, kr.tape.trans K0.tape, kr.output.trans K0.output, Nat.le_trans K0.size kr.size, fun k hk _ => (kr.block k (by omega) (by omega)).trans (K0.block k hk id)⟩
      have S0 : S11 wr w.heap.size p l (off : Int) wr := s11_of hbr (Keeps.refl _ _)
      have hTi := hT i hlt
      have hLi := hLf.out i hlt
      clear hT hLf hb hr ha K0
      go_wp2_with fail
      go_region_held3 (fun w' => w'.cell? ⟨w.heap.size, 0, none⟩ = some (.pointer (some ⟨p, 0, none⟩)) ∧ w'.cell? ⟨w.heap.size, 1, none⟩ = some (.int .i64 l.k) ∧ w'.cell? ⟨w.heap.size, 2, none⟩ = some (.int .i64 l.e) ∧ w'.cell? ⟨w.heap.size, 3, none⟩ = some (.int .i64 l.a) ∧ w'.cell? ⟨w.heap.size, 4, none⟩ = some (.int .i64 l.b) ∧ w'.cell? ⟨w.heap.size, 5, none⟩ = some (.int .i64 l.c) ∧ w'.cell? ⟨w.heap.size, 6, none⟩ = some (.int .i64 l.eo) ∧ w'.cell? ⟨w.heap.size, 7, none⟩ = some (.int .i64 l.bo) ∧ w'.cell? ⟨w.heap.size, 8, none⟩ = some (.int .i64 l.s) ∧ w'.cell? ⟨w.heap.size, 9, none⟩ = some (.int .i64 l.g) ∧ w'.cell? ⟨w.heap.size, 10, none⟩ = some (.int .i64 off) ∧ Keeps wr w' (fun _ => False)) (first | exact s11_drew S0 | exact s11_drew (s11_alloc S0 _) | exact s11_drew (s11_alloc (s11_alloc S0 _) _) | exact s11_call (by assumption) (by assumption) | exact s11_alloc (by assumption) _)
        (first | (go_at_call 51; refine (hTi _).mono ?_; rintro r w1 ⟨rfl, k1⟩) | (go_at_call 24; obtain ⟨nn, hfn, hLn⟩ := hLi _ (Kw.trans (s11_k (by assumption)) (fun _ _ e => e)); refine hLn.mono ?_; rintro r w2 ⟨rfl, k2⟩))
      have S2 : S11 wr w.heap.size p l (off : Int) w2 := by assumption
      have kw2 := s11_k S2
      have hG2 : Got w2 (w.heap.size + 1 + 1) 119 f i := hG.kept (kw2.block _ (by obtain ⟨cs, h1, _⟩ := hG; exact heap_lt h1) id)
      obtain ⟨⟨v9, hv9⟩, hfz⟩ := hG2.cell hlt
      have hw : wrap64 (nn : Int) = f i := hfn.symm
      have HF : Hid (Got (w2.setCell ⟨w.heap.size + 1 + 1, i, none⟩ (.int .i64 (f i))) (w.heap.size + 1 + 1) 119 f (i + 1) ∧ Keeps W0 (w2.setCell ⟨w.heap.size + 1 + 1, i, none⟩ (.int .i64 (f i))) (fun k => k = w.heap.size + 1 + 1)) :=
        ⟨hG2.step hlt, (kr.trans (kw2.mono (fun _ _ e => e.elim)) (fun _ _ e => e)).setCell _ (fun _ => rfl) _⟩
      clear hG hG2 S2 kw2 hfn hLi hLn k1 k2
      go_wp2_with fail
      go_roundg (8 - (i + 1))
      case measure => omega
      case rel => exact ⟨i + 1, rfl, by omega, by simp, HF.out.1, HF.out.2⟩
    · obtain rfl : i = 8 := by omega
      have q0 := hG.all (j := 0) (by omega)
      have q1 := hG.all (j := 1) (by omega)
      have q2 := hG.all (j := 2) (by omega)
      have q3 := hG.all (j := 3) (by omega)
      have q4 := hG.all (j := 4) (by omega)
      have q5 := hG.all (j := 5) (by omega)
      have q6 := hG.all (j := 6) (by omega)
      have q7 := hG.all (j := 7) (by omega)
      have hrr := (kr.block (w.heap.size + 1) (by omega) (by omega)).trans hr
      have Kw : Keeps w wr (fun _ => False) := ⟨kr.os.trans K0.os, kr.tape.trans K0.tape, kr.output.trans K0.output, Nat.le_trans K0.size kr.size, fun k hk _ => (kr.block k (by omega) (by omega)).trans (K0.block k hk id)⟩
      obtain ⟨⟨d0, d1, d2, d3, d4, d5, d6, d7⟩, f0, f1, f2, f3, f4, f5, f6, f7⟩ := st8_cells hrr
      clear hG hT hLf hb hr ha K0 kr
      go_wp2_with fail
      refine st8_set hrr Kw (fun h => by omega) (P := fun w9 => bodyPost _ _ _ _ _ w9) fun w9 h9 k9 _ => ?_
      obtain ⟨⟨e0, e1, e2, e3, e4, e5, e6, e7⟩, -⟩ := st8_cells h9
      exact bodyPost_ret (v := .tuple #[.agg #[.int .i64 (f 3), .int .i64 (f 4), .int .i64 (f 5), .int .i64 (f 6), .int .i64 (f 1), .int .i64 (f 2), .bool (f 0 == 4), .int .i64 (f 7)], .int .i64 0]) (by simp [results, Tryz.results23, go_sem, e0, e1, e2, e3, e4, e5, e6, e7]) rfl ⟨rfl, k9⟩

set_option maxRecDepth 100000 in
set_option maxHeartbeats 4000000 in
theorem stat_no {w : World} {p : Nat} {F : Nat → Prop} {d : AD} (hA : Arena w p F d) (hF : d.Fine) (l : Lay) (off : Nat) (hg : d.goodB (off : Int) 8 = false) (h1 : off ≤ 134217728) :
    Calls Tryz.prog 23 #[.agg #[.pointer (some ⟨p, 0, none⟩), .int .i64 l.k, .int .i64 l.e, .int .i64 l.a, .int .i64 l.b, .int .i64 l.c, .int .i64 l.eo, .int .i64 l.bo, .int .i64 l.s, .int .i64 l.g, .int .i64 (off : Int)]] w fun e w' => e = .returned (.tuple #[stat0, .int .i64 24]) ∧ Keeps w w' (fun _ => False) := by
  obtain ⟨c, hc, hfo⟩ := hA.at
  have hTi := fun W => tat_any p l (off : Int) 0 W (by omega) (by omega) (by omega) (by omega)
  have hLi := fun W (k : Keeps w W (fun _ => False)) => aload_any (hc.keeps k (fun _ _ e => e)) hF (off : Int) 8 (fitsI_mk (by omega) (by omega)) (fitsI_mk (by omega) (by omega))
  have hx : loadV d (off : Int) 8 = (0, 24) := by
    unfold loadV
    rw [hg]
    rfl
  simp only [hx] at hLi
  simp only [Int.zero_mul, Int.add_zero] at hTi
  unfold stat0
  clear hx hc hfo hA hg hF
  go_enter Tryz.func23, Tryz.ntmps23
  go_wp2_with fail
  refine alloc3 (P := fun W => Code.wp _ _ _ _ W) fun W0 hb hr ha hz K0 => ?_
  go_loopg [8] 8 (fun g v8 wr => g = 8 ∧ v8 = .int .i64 0 ∧ wr = W0)
  case atStart => exact ⟨rfl, rfl, rfl⟩
  case round =>
    obtain ⟨rfl, rfl, rfl⟩ := hrel
    have S0 : S11 wr w.heap.size p l (off : Int) wr := s11_of hb (Keeps.refl _ _)
    go_wp2_with fail
    go_region_held3 (fun w' => w'.cell? ⟨w.heap.size, 0, none⟩ = some (.pointer (some ⟨p, 0, none⟩)) ∧ w'.cell? ⟨w.heap.size, 1, none⟩ = some (.int .i64 l.k) ∧ w'.cell? ⟨w.heap.size, 2, none⟩ = some (.int .i64 l.e) ∧ w'.cell? ⟨w.heap.size, 3, none⟩ = some (.int .i64 l.a) ∧ w'.cell? ⟨w.heap.size, 4, none⟩ = some (.int .i64 l.b) ∧ w'.cell? ⟨w.heap.size, 5, none⟩ = some (.int .i64 l.c) ∧ w'.cell? ⟨w.heap.size, 6, none⟩ = some (.int .i64 l.eo) ∧ w'.cell? ⟨w.heap.size, 7, none⟩ = some (.int .i64 l.bo) ∧ w'.cell? ⟨w.heap.size, 8, none⟩ = some (.int .i64 l.s) ∧ w'.cell? ⟨w.heap.size, 9, none⟩ = some (.int .i64 l.g) ∧ w'.cell? ⟨w.heap.size, 10, none⟩ = some (.int .i64 off) ∧ Keeps wr w' (fun _ => False)) (first | exact s11_drew S0 | exact s11_drew (s11_alloc S0 _) | exact s11_drew (s11_alloc (s11_alloc S0 _) _) | exact s11_call (by assumption) (by assumption) | exact s11_alloc (by assumption) _)
      (first | (go_at_call 51; refine (hTi _).mono ?_; rintro r w1 ⟨rfl, k1⟩) | (go_at_call 24; refine (hLi _ (K0.trans (s11_k (by assumption)) (fun _ _ e => e))).mono ?_; rintro r w2 ⟨rfl, k2⟩))
    have S2 : S11 wr w.heap.size p l (off : Int) w2 := by assumption
    have kw2 := s11_k S2
    have hrr := kw2.blk hr
    have Kw : Keeps w w2 (fun _ => False) := K0.trans kw2 (fun _ _ e => e)
    obtain ⟨⟨d0, d1, d2, d3, d4, d5, d6, d7⟩, f0, f1, f2, f3, f4, f5, f6, f7⟩ := st8_cells hrr
    clear hTi hLi S2 S0 hb hr ha k1 k2
    go_wp2_with fail
    refine st8_set hrr Kw (fun h => by omega) (P := fun w9 => bodyPost _ _ _ _ _ w9) fun w9 h9 k9 _ => ?_
    obtain ⟨⟨e0, e1, e2, e3, e4, e5, e6, e7⟩, -⟩ := st8_cells h9
    exact bodyPost_ret (v := .tuple #[.agg #[.int .i64 0, .int .i64 0, .int .i64 0, .int .i64 0, .int .i64 0, .int .i64 0, .bool false, .int .i64 0], .int .i64 24]) (by simp [results, Tryz.results23, go_sem, e0, e1, e2, e3, e4, e5, e6, e7]) rfl ⟨rfl, k9⟩
end Go.Proofs.YtmdnknbolgedgaaGreatDoor
/-
  A table in the arena's bytes, as data.
-/
namespace Go.Proofs.YtmdnknbolgedgaaGreatDoor
open Go.RowKit Go.Shelf Ly Ct
set_option linter.unusedVariables false

section
variable {d d' : AD} {l : Lay} {off : Nat} {c : Nat → GC} {o n : Nat}
theorem GroupAt.touch (h : GroupAt d l off c) (t : Touch d d' o n) (hd : off + l.g.toNat ≤ o ∨ o + n ≤ off) : GroupAt d' l off c := by
  have hv := valid_more h.valid
  refine ⟨h.valid, by rw [t.goodB]; exact h.good, by rw [t.len]; exact h.len, fun i hi => ?_, fun i hi => ?_, h.ok⟩
  · have : wordN d' (off : Int) = wordN d (off : Int) := by
      unfold wordN
      have := t.span (a := off) (k := 8) (by omega)
      exact congrArg numOf this
    rw [this]
    exact h.word i hi
  · have hm := slots_in (s := l.s.toNat) hi
    have := t.span (a := off + 8 + i * l.s.toNat) (k := l.s.toNat) (by omega)
    rw [show ((l.s.toNat : Nat) : Int) = l.s by omega] at this
    rw [this]
    exact h.slot i hi
theorem hdr_touch (t : Touch d d' o n) (hd : off + 64 ≤ o ∨ o + n ≤ off) {i : Nat} (hi : i < 8) : hdr d' off i = hdr d off i := by
  unfold hdr
  have := t.span (a := off + i * 8) (k := 8) (by omega)
  rw [show ((off + i * 8 : Nat) : Int) = (off : Int) + (i : Int) * 8 by omega] at this
  rw [show ((8 : Nat) : Int) = 8 from rfl] at this
  rw [this]
theorem hdr_set (hl : off + 64 ≤ d.bs.length) {i j : Nat} (hi : i < 8) (hj : j < 8) (u : Nat) : hdr (d.bytes (splice d.bs (off + i * 8) (leBytes u 8))) off j = if j = i then wrap64 ((u % 18446744073709551616 : Nat) : Int) else hdr d off j := by
  have hlen : off + i * 8 + (leBytes u 8).length ≤ d.bs.length := by rw [leBytes_length]; omega
  unfold hdr AD.span
  rw [show ((off : Int) + (j : Int) * 8).toNat = off + j * 8 by omega, show (8 : Int).toNat = 8 from rfl]
  show wrap64 ((numOf (((splice d.bs (off + i * 8) (leBytes u 8)).drop (off + j * 8)).take 8) : Nat) : Int) = _
  by_cases e : j = i
  · subst e
    rw [if_pos rfl, span_in hlen (by rw [leBytes_length]), numOf_le]
  · rw [if_neg e, span_out hlen (by rw [leBytes_length]; omega)]
end

/-- A table of G groups: header at off, groups from gr on; f: its header's words, c: its cells. -/
structure TabD (d : AD) (l : Lay) (off gr G : Nat) (f : Nat → Int) (c : Nat → GC) : Prop where
  valid : validB l = true
  pos : 0 < G
  few : G ≤ 8192
  good : d.goodB (off : Int) 64 = true
  len : off + 64 ≤ d.bs.length
  glen : gr + G * l.g.toNat ≤ d.bs.length
  head : ∀ i, i < 8 → hdr d off i = f i
  grp : ∀ i, i < G → GroupAt d l (gr + i * l.g.toNat) (fun j => c (8 * i + j))
  apart : off + 64 ≤ gr ∨ gr + G * l.g.toNat ≤ off
def updI (f : Nat → Int) (i : Nat) (v : Int) : Nat → Int := fun j => if j = i then v else f j
section
variable {d d' : AD} {l : Lay} {off gr G : Nat} {f : Nat → Int} {c : Nat → GC}
theorem TabD.in (h : TabD d l off gr G f c) {i : Nat} (hi : i < G) : gr ≤ gr + i * l.g.toNat ∧ gr + i * l.g.toNat + l.g.toNat ≤ gr + G * l.g.toNat := by
  have := mul_apart (s := l.g.toNat) hi
  omega
/-- A word of the header is laid. -/
theorem TabD.set (h : TabD d l off gr G f c) {i : Nat} (hi : i < 8) {v : Int} (hv : fitsI v) :
    storeR d ((off : Int) + (i : Int) * 8) 8 (u64of v) = (0, d.bytes (splice d.bs (off + i * 8) (leBytes (u64of v) 8))) ∧ TabD (d.bytes (splice d.bs (off + i * 8) (leBytes (u64of v) 8))) l off gr G (updI f i v) c ∧ Touch d (d.bytes (splice d.bs (off + i * 8) (leBytes (u64of v) 8))) off 64 := by
  have hlen : off + i * 8 + (leBytes (u64of v) 8).length ≤ d.bs.length := by rw [leBytes_length]; have := h.len; omega
  have ht : Touch d (d.bytes (splice d.bs (off + i * 8) (leBytes (u64of v) 8))) off 64 := Touch.splice d (by omega) (by rw [leBytes_length]; omega) hlen
  have hg8 := good_sub h.good (x := (i : Int) * 8) (m := 8) (by omega) (by omega) (by omega)
  refine ⟨?_, ⟨h.valid, h.pos, h.few, by rw [ht.goodB]; exact h.good, by rw [ht.len]; exact h.len, by rw [ht.len]; exact h.glen, fun j hj => ?_, fun j hj => (h.grp j hj).touch ht ?_, h.apart⟩, ht⟩
  · unfold storeR
    rw [hg8, show ((off : Int) + (i : Int) * 8).toNat = off + i * 8 by omega]
    rfl
  · rw [hdr_set h.len hi hj]
    unfold updI
    have : u64of v % 18446744073709551616 = u64of v := Nat.mod_eq_of_lt (u64of_lt v)
    rw [this, wrap_u64of hv, h.head j hj]
  · have := h.in hj
    rcases h.apart with q | q
    · right; omega
    · left; omega
/-- One group is another. -/
def updG (c : Nat → GC) (k : Nat) (x : Nat → GC) : Nat → GC := fun n => if n / 8 = k then x (n % 8) else c n
theorem TabD.turn (h : TabD d l off gr G f c) {k : Nat} (hk : k < G) {x : Nat → GC} (hg : GroupAt d' l (gr + k * l.g.toNat) x) (ht : Touch d d' (gr + k * l.g.toNat) l.g.toNat) : TabD d' l off gr G f (updG c k x) := by
  have hik := h.in hk
  refine ⟨h.valid, h.pos, h.few, by rw [ht.goodB]; exact h.good, by rw [ht.len]; exact h.len, by rw [ht.len]; exact h.glen, fun j hj => ?_, fun j hj => ?_, h.apart⟩
  · rw [hdr_touch ht ?_ hj]
    · exact h.head j hj
    · rcases h.apart with q | q
      · left; omega
      · right; omega
  · by_cases e : j = k
    · subst e
      have : ∀ i, i < 8 → updG c j x (8 * j + i) = x i := fun i hi => by
        unfold updG
        rw [if_pos (by omega), show (8 * j + i) % 8 = i by omega]
      refine ⟨hg.valid, hg.good, hg.len, fun i hi => ?_, fun i hi => ?_, fun i hi => ?_⟩
      · rw [this i hi]; exact hg.word i hi
      · rw [this i hi]; exact hg.slot i hi
      · rw [this i hi]; exact hg.ok i hi
    · have hne : ∀ i, i < 8 → updG c k x (8 * j + i) = c (8 * j + i) := fun i hi => by
        unfold updG
        rw [if_neg (by omega)]
      have hj0 := (h.grp j hj).touch ht (by
        rcases Nat.lt_or_gt_of_ne e with q | q
        · have := mul_apart (s := l.g.toNat) q; omega
        · have := mul_apart (s := l.g.toNat) q; omega)
      refine ⟨hj0.valid, hj0.good, hj0.len, fun i hi => ?_, fun i hi => ?_, fun i hi => ?_⟩
      · rw [hne i hi]; exact hj0.word i hi
      · rw [hne i hi]; exact hj0.slot i hi
      · rw [hne i hi]; exact hj0.ok i hi
theorem TabD.there (h : TabD d l off gr G f c) {i : Nat} (hi : i < G) : thereB d l ((gr + i * l.g.toNat : Nat) : Int) = true := (h.grp i hi).there
theorem TabD.off_le (h : TabD d l off gr G f c) (hF : d.Fine) : off ≤ 134217728 ∧ gr ≤ 134217728 := by
  have h1 := h.len
  have h2 := h.glen
  have h3 := hF.most
  omega
end
end Go.Proofs.YtmdnknbolgedgaaGreatDoor
/-
  SetNext, Retire, Pin.
-/
namespace Go.Proofs.YtmdnknbolgedgaaGreatDoor
open Go.RowKit Go.Shelf Ly Ct
set_option linter.unusedVariables false

section
variable {w : World} {p : Nat} {F : Nat → Prop} {d : AD} {l : Lay} {off gr G : Nat} {f : Nat → Int} {c : Nat → GC}
/-- What a call leaves that lays words of the header alone. -/
def HeadPost (w : World) (p : Nat) (F : Nat → Prop) (d : AD) (l : Lay) (off gr G : Nat) (f : Nat → Int) (c : Nat → GC) (w' : World) : Prop := ∃ d', Turned w w' p F d' ∧ d'.Fine ∧ TabD d' l off gr G f c ∧ Touch d d' off 64
theorem tset_tab (hA : Arena w p F d) (hF : d.Fine) (hFl : ∀ k, F k → k < w.heap.size) (h : TabD d l off gr G f c) (i : Nat) (hi : i < 8) (v : Int) (hv : fitsI v) :
    Calls Tryz.prog 46 #[.agg #[.pointer (some ⟨p, 0, none⟩), .int .i64 l.k, .int .i64 l.e, .int .i64 l.a, .int .i64 l.b, .int .i64 l.c, .int .i64 l.eo, .int .i64 l.bo, .int .i64 l.s, .int .i64 l.g, .int .i64 (off : Int)], .int .i64 (i : Int), .int .i64 v] w fun e w' => e = .returned (.int .i64 0) ∧ HeadPost w p F d l off gr G (updI f i v) c w' := by
  have ho := h.off_le hF
  obtain ⟨e1, h1, h2⟩ := h.set hi hv
  have := tset_any hA hF hFl l (off : Int) (i : Int) v (by omega) (by omega) (by omega) (by omega)
  rw [e1] at this
  refine this.mono ?_
  rintro e w' ⟨rfl, hT⟩
  exact ⟨rfl, _, hT, h2.fine hF, h1, h2⟩
theorem tstat_tab (hA : Arena w p F d) (hF : d.Fine) (h : TabD d l off gr G f c) :
    Calls Tryz.prog 23 #[.agg #[.pointer (some ⟨p, 0, none⟩), .int .i64 l.k, .int .i64 l.e, .int .i64 l.a, .int .i64 l.b, .int .i64 l.c, .int .i64 l.eo, .int .i64 l.bo, .int .i64 l.s, .int .i64 l.g, .int .i64 (off : Int)]] w fun e w' => e = .returned (.tuple #[statV f, .int .i64 0]) ∧ Keeps w w' (fun _ => False) := by
  have ho := h.off_le hF
  have := stat_yes hA hF l off h.good ho.1
  have e : statV (hdr d off) = statV f := by
    unfold statV
    rw [h.head 0 (by omega), h.head 1 (by omega), h.head 2 (by omega), h.head 3 (by omega), h.head 4 (by omega), h.head 5 (by omega), h.head 6 (by omega), h.head 7 (by omega)]
  rw [e] at this
  exact this
end

set_option maxHeartbeats 1000000 in
theorem tnext_any {w : World} {p : Nat} {F : Nat → Prop} {d : AD} {l : Lay} {off gr G : Nat} {f : Nat → Int} {c : Nat → GC} (hA : Arena w p F d) (hF : d.Fine) (hFl : ∀ k, F k → k < w.heap.size) (h : TabD d l off gr G f c) (v : Int) (hv : fitsI v) :
    Calls Tryz.prog 21 #[.agg #[.pointer (some ⟨p, 0, none⟩), .int .i64 l.k, .int .i64 l.e, .int .i64 l.a, .int .i64 l.b, .int .i64 l.c, .int .i64 l.eo, .int .i64 l.bo, .int .i64 l.s, .int .i64 l.g, .int .i64 (off : Int)], .int .i64 v] w fun e w' => e = .returned (.int .i64 0) ∧ HeadPost w p F d l off gr G (updI f 2 v) c w' := by
  have hSt := fun W (k : Keeps w W (fun _ => False)) => tstat_tab (hA.keeps k (fun _ _ _ e => e)) hF h
  have hSe : Hid (∀ W (k : Keeps w W (fun _ => False)), Calls Tryz.prog 46 #[.agg #[.pointer (some ⟨p, 0, none⟩), .int .i64 l.k, .int .i64 l.e, .int .i64 l.a, .int .i64 l.b, .int .i64 l.c, .int .i64 l.eo, .int .i64 l.bo, .int .i64 l.s, .int .i64 l.g, .int .i64 (off : Int)], .int .i64 2, .int .i64 v] W fun e w' => e = .returned (.int .i64 0) ∧ HeadPost w p F d l off gr G (updI f 2 v) c w') := fun W k => by
    refine (tset_tab (hA.keeps k (fun _ _ _ e => e)) hF (fun i hi => Nat.lt_of_lt_of_le (hFl i hi) k.size) h 2 (by omega) v hv).mono ?_
    rintro e w' ⟨rfl, d', hT, h2⟩
    exact ⟨rfl, d', Turned.pre k hT, h2⟩
  unfold statV at hSt
  clear hA h
  go_enter Tryz.func21, Tryz.ntmps21
  go_wp2_with fail
  refine alloc1 (P := fun W => Calls _ _ _ W _) fun W0 hb hz K0 => ?_
  (with_reducible refine (hSt _ K0).mono ?_)
  rintro r w1 ⟨rfl, k1⟩
  have K1 : Keeps w w1 (fun _ => False) := K0.trans k1 (fun _ _ e => e)
  have k2 : Keeps w1 (w1.alloc (.cells #[.int .i64 (f 3), .int .i64 (f 4), .int .i64 (f 5), .int .i64 (f 6), .int .i64 (f 1), .int .i64 (f 2), .bool (f 0 == 4), .int .i64 (f 7)] 64)) (fun _ => False) := (Keeps.refl _ _).alloc _
  obtain ⟨c0, c1, c2, c3, c4, c5, c6, c7, c8, c9, c10⟩ := c11_of (k2.blk (k1.blk hb))
  have hSe1 := hSe.out _ (K1.trans k2 (fun _ _ e => e))
  clear hSt hSe
  go_wp2_with fail
  (with_reducible refine hSe1.mono ?_)
  rintro r w2 ⟨rfl, hP⟩
  have HP := hide hP
  clear hP hSe1 c0 c1 c2 c3 c4 c5 c6 c7 c8 c9 c10
  go_wp2_with fail
  go_ret
  exact ⟨rfl, HP.out⟩

set_option maxHeartbeats 1000000 in
theorem tretire_any {w : World} {p : Nat} {F : Nat → Prop} {d : AD} {l : Lay} {off gr G : Nat} {f : Nat → Int} {c : Nat → GC} (hA : Arena w p F d) (hF : d.Fine) (hFl : ∀ k, F k → k < w.heap.size) (h : TabD d l off gr G f c) (v : Int) (hv : fitsI v) :
    Calls Tryz.prog 20 #[.agg #[.pointer (some ⟨p, 0, none⟩), .int .i64 l.k, .int .i64 l.e, .int .i64 l.a, .int .i64 l.b, .int .i64 l.c, .int .i64 l.eo, .int .i64 l.bo, .int .i64 l.s, .int .i64 l.g, .int .i64 (off : Int)], .int .i64 v] w fun e w' => e = .returned (.int .i64 0) ∧ HeadPost w p F d l off gr G (updI (updI f 2 v) 0 4) c w' := by
  have hnB : ¬ F w.heap.size := fun q => Nat.lt_irrefl _ (hFl _ q)
  have hNx : Hid (∀ W (k : Keeps w W (fun _ => False)), Calls Tryz.prog 21 #[.agg #[.pointer (some ⟨p, 0, none⟩), .int .i64 l.k, .int .i64 l.e, .int .i64 l.a, .int .i64 l.b, .int .i64 l.c, .int .i64 l.eo, .int .i64 l.bo, .int .i64 l.s, .int .i64 l.g, .int .i64 (off : Int)], .int .i64 v] W fun e w' => e = .returned (.int .i64 0) ∧ HeadPost W p F d l off gr G (updI f 2 v) c w') := fun W k =>
    tnext_any (hA.keeps k (fun _ _ _ e => e)) hF (fun i hi => Nat.lt_of_lt_of_le (hFl i hi) k.size) h v hv
  clear hA h
  go_enter Tryz.func20, Tryz.ntmps20
  go_wp2_with fail
  refine alloc1 (P := fun W => Calls _ _ _ W _) fun W0 hb hz K0 => ?_
  (with_reducible refine (hNx.out _ K0).mono ?_)
  rintro r w1 ⟨rfl, d1, hT1, hF1, h1, ht1⟩
  have hb1 := (hT1.2.block w.heap.size (by omega) hnB).trans hb
  obtain ⟨c0, c1, c2, c3, c4, c5, c6, c7, c8, c9, c10⟩ := c11_of hb1
  have hSe := tset_tab hT1.arena hF1 (fun _ q => q.2) h1 0 (by omega) 4 (fitsI_mk (by omega) (by omega))
  rw [show ((0 : Nat) : Int) = 0 from rfl] at hSe
  have HT := hide hT1
  have HT1 := hide ht1
  clear hNx hT1 h1 ht1
  go_wp2_with fail
  (with_reducible refine hSe.mono ?_)
  rintro r w2 ⟨rfl, d2, hT2, hF2, h2, ht2⟩
  have HP : Hid (HeadPost w p F d l off gr G (updI (updI f 2 v) 0 4) c w2) := ⟨d2, Turned.pre K0 (HT.out.then hT2), hF2, h2, HT1.out.trans ht2⟩
  clear hSe hT2 h2 ht2 HT HT1 c0 c1 c2 c3 c4 c5 c6 c7 c8 c9 c10
  go_wp2_with fail
  go_ret
  exact ⟨rfl, HP.out⟩
end Go.Proofs.YtmdnknbolgedgaaGreatDoor
/-
  Pin.
-/
namespace Go.Proofs.YtmdnknbolgedgaaGreatDoor
open Go.RowKit Go.Shelf Ly Ct
set_option linter.unusedVariables false

set_option maxRecDepth 100000 in
set_option maxHeartbeats 1000000 in
theorem tpin_no {w : World} {p : Nat} {F : Nat → Prop} {d : AD} {l : Lay} {off gr G : Nat} {f : Nat → Int} {c : Nat → GC} (hA : Arena w p F d) (hF : d.Fine) (h : TabD d l off gr G f c) (b : Int) (hb9 : fitsI b) (h0 : 0 ≤ f 1) (h62 : f 1 ≤ 4611686018427387904) (hno : b < -(f 1) ∨ 4611686018427387904 - f 1 < b) :
    Calls Tryz.prog 19 #[.agg #[.pointer (some ⟨p, 0, none⟩), .int .i64 l.k, .int .i64 l.e, .int .i64 l.a, .int .i64 l.b, .int .i64 l.c, .int .i64 l.eo, .int .i64 l.bo, .int .i64 l.s, .int .i64 l.g, .int .i64 (off : Int)], .int .i64 b] w fun e w' => e = .returned (.tuple #[.int .i64 0, .int .i64 83]) ∧ Keeps w w' (fun _ => False) := by
  have hSt := fun W (k : Keeps w W (fun _ => False)) => tstat_tab (hA.keeps k (fun _ _ _ e => e)) hF h
  unfold statV at hSt
  clear hA h
  generalize f 1 = f1 at *
  generalize f 0 = f0 at *
  generalize f 2 = f2 at *
  generalize f 3 = f3 at *
  generalize f 4 = f4 at *
  generalize f 5 = f5 at *
  generalize f 6 = f6 at *
  generalize f 7 = f7 at *
  have w1 : IntKind.i64.wrap (-f1) = -f1 := by rw [IntKind.wrap_i64]; omega
  have w2 : IntKind.i64.wrap (4611686018427387904 - f1) = 4611686018427387904 - f1 := by rw [IntKind.wrap_i64]; omega
  by_cases hlo : b < -f1
  · go_enter Tryz.func19, Tryz.ntmps19
    go_wp2_with fail
    refine alloc1 (P := fun W => Calls _ _ _ W _) fun W0 hb hz K0 => ?_
    (with_reducible refine (hSt _ K0).mono ?_)
    rintro r w1' ⟨rfl, k1⟩
    have K1 : Keeps w w1' (fun _ => False) := K0.trans k1 (fun _ _ e => e)
    clear hSt
    go_wp2_with fail
    go_ret2
    exact ⟨rfl, K1.alloc _⟩
  · have hhi : 4611686018427387904 - f1 < b := by omega
    go_enter Tryz.func19, Tryz.ntmps19
    go_wp2_with fail
    refine alloc1 (P := fun W => Calls _ _ _ W _) fun W0 hb hz K0 => ?_
    (with_reducible refine (hSt _ K0).mono ?_)
    rintro r w1' ⟨rfl, k1⟩
    have K1 : Keeps w w1' (fun _ => False) := K0.trans k1 (fun _ _ e => e)
    clear hSt
    go_wp2_with fail
    go_ret2
    exact ⟨rfl, K1.alloc _⟩

/-- The struct's cells, and one cell more. -/
abbrev C12 (b p : Nat) (l : Lay) (off : Int) (e : Nat) (v : Value) (W : World) : Prop := W.cell? ⟨b, 0, none⟩ = some (.pointer (some ⟨p, 0, none⟩)) ∧ W.cell? ⟨b, 1, none⟩ = some (.int .i64 l.k) ∧ W.cell? ⟨b, 2, none⟩ = some (.int .i64 l.e) ∧ W.cell? ⟨b, 3, none⟩ = some (.int .i64 l.a) ∧ W.cell? ⟨b, 4, none⟩ = some (.int .i64 l.b) ∧ W.cell? ⟨b, 5, none⟩ = some (.int .i64 l.c) ∧ W.cell? ⟨b, 6, none⟩ = some (.int .i64 l.eo) ∧ W.cell? ⟨b, 7, none⟩ = some (.int .i64 l.bo) ∧ W.cell? ⟨b, 8, none⟩ = some (.int .i64 l.s) ∧ W.cell? ⟨b, 9, none⟩ = some (.int .i64 l.g) ∧ W.cell? ⟨b, 10, none⟩ = some (.int .i64 off) ∧ W.cell? ⟨e, 4, none⟩ = some v
theorem c12_of {W : World} {b p e : Nat} {l : Lay} {off : Int} {v : Value} (h : C11 b p l off W) (h2 : W.cell? ⟨e, 4, none⟩ = some v) : C12 b p l off e v W := by
  obtain ⟨c0, c1, c2, c3, c4, c5, c6, c7, c8, c9, c10⟩ := h
  exact ⟨c0, c1, c2, c3, c4, c5, c6, c7, c8, c9, c10, h2⟩
theorem c12_keeps {W W1 : World} {b p e : Nat} {l : Lay} {off : Int} {v : Value} {S : Nat → Prop} (k : Keeps W W1 S) (hS : ¬ S b) (hE : ¬ S e) (h : C12 b p l off e v W) : C12 b p l off e v W1 := by
  obtain ⟨c0, c1, c2, c3, c4, c5, c6, c7, c8, c9, c10, h2⟩ := h
  refine c12_of (c11_keeps k hS ⟨c0, c1, c2, c3, c4, c5, c6, c7, c8, c9, c10⟩) ?_
  have : e < W.heap.size := by
    refine Nat.lt_of_not_le fun hn => ?_
    rw [World.cell?, Array.getElem?_eq_none hn] at h2
    cases h2
  exact (World.cell?_of_block (w := W) (a := ⟨e, 4, none⟩) (k.block e this hE)).trans h2

set_option maxRecDepth 100000 in
set_option maxHeartbeats 1000000 in
theorem tpin_yes {w : World} {p : Nat} {F : Nat → Prop} {d : AD} {l : Lay} {off gr G : Nat} {f : Nat → Int} {c : Nat → GC} (hA : Arena w p F d) (hF : d.Fine) (hFl : ∀ k, F k → k < w.heap.size) (h : TabD d l off gr G f c) (b : Int) (h0 : 0 ≤ f 1) (h62 : f 1 ≤ 4611686018427387904) (hlo : -(f 1) ≤ b) (hhi : b ≤ 4611686018427387904 - f 1) :
    Calls Tryz.prog 19 #[.agg #[.pointer (some ⟨p, 0, none⟩), .int .i64 l.k, .int .i64 l.e, .int .i64 l.a, .int .i64 l.b, .int .i64 l.c, .int .i64 l.eo, .int .i64 l.bo, .int .i64 l.s, .int .i64 l.g, .int .i64 (off : Int)], .int .i64 b] w fun e w' => e = .returned (.tuple #[.int .i64 (f 1 + b), .int .i64 0]) ∧ HeadPost w p F d l off gr G (updI f 1 (f 1 + b)) c w' := by
  have hSt := fun W (k : Keeps w W (fun _ => False)) => tstat_tab (hA.keeps k (fun _ _ _ e => e)) hF h
  have hSe : Hid (∀ W (k : Keeps w W (fun _ => False)), Calls Tryz.prog 46 #[.agg #[.pointer (some ⟨p, 0, none⟩), .int .i64 l.k, .int .i64 l.e, .int .i64 l.a, .int .i64 l.b, .int .i64 l.c, .int .i64 l.eo, .int .i64 l.bo, .int .i64 l.s, .int .i64 l.g, .int .i64 (off : Int)], .int .i64 1, .int .i64 (f 1 + b)] W fun e w' => e = .returned (.int .i64 0) ∧ HeadPost W p F d l off gr G (updI f 1 (f 1 + b)) c w') := fun W k =>
    tset_tab (hA.keeps k (fun _ _ _ e => e)) hF (fun i hi => Nat.lt_of_lt_of_le (hFl i hi) k.size) h 1 (by omega) (f 1 + b) (fitsI_mk (by omega) (by omega))
  unfold statV at hSt
  have hnB : ¬ F w.heap.size := fun q => Nat.lt_irrefl _ (hFl _ q)
  clear hA h
  obtain ⟨ff, hff⟩ : ∃ ff, updI f 1 (f 1 + b) = ff := ⟨_, rfl⟩
  rw [hff] at hSe ⊢
  clear hff
  generalize f 1 = f1 at *
  generalize f 0 = f0 at *
  generalize f 2 = f2 at *
  generalize f 3 = f3 at *
  generalize f 4 = f4 at *
  generalize f 5 = f5 at *
  generalize f 6 = f6 at *
  generalize f 7 = f7 at *
  have w1 : IntKind.i64.wrap (-f1) = -f1 := by rw [IntKind.wrap_i64]; omega
  have w2 : IntKind.i64.wrap (4611686018427387904 - f1) = 4611686018427387904 - f1 := by rw [IntKind.wrap_i64]; omega
  have w3 : IntKind.i64.wrap (f1 + b) = f1 + b := by rw [IntKind.wrap_i64]; omega
  have g1 : ¬ b < -f1 := by omega
  have g2 : ¬ 4611686018427387904 - f1 < b := by omega
  go_enter Tryz.func19, Tryz.ntmps19
  go_wp2_with fail
  refine alloc1 (P := fun W => Calls _ _ _ W _) fun W0 hb hz K0 => ?_
  (with_reducible refine (hSt _ K0).mono ?_)
  rintro r w1' ⟨rfl, k1⟩
  have K1 : Keeps w w1' (fun _ => False) := K0.trans k1 (fun _ _ e => e)
  have hnE : ¬ F w1'.heap.size := fun q => by have := hFl _ q; have := K1.size; omega
  have k2 : Keeps w1' (w1'.alloc (.cells #[.int .i64 f3, .int .i64 f4, .int .i64 f5, .int .i64 f6, .int .i64 f1, .int .i64 f2, .bool (f0 == 4), .int .i64 f7] 64)) (fun _ => False) := (Keeps.refl _ _).alloc _
  have hst := heap_alloc_new w1' (.cells #[.int .i64 f3, .int .i64 f4, .int .i64 f5, .int .i64 f6, .int .i64 f1, .int .i64 f2, .bool (f0 == 4), .int .i64 f7] 64)
  have C1 : C12 w.heap.size p l (off : Int) w1'.heap.size (.int .i64 f1) (w1'.alloc (.cells #[.int .i64 f3, .int .i64 f4, .int .i64 f5, .int .i64 f6, .int .i64 f1, .int .i64 f2, .bool (f0 == 4), .int .i64 f7] 64)) := c12_of (c11_of (k2.blk (k1.blk hb))) (st8_cells hst).1.2.2.2.2.1
  have K2 : Keeps w (w1'.alloc (.cells #[.int .i64 f3, .int .i64 f4, .int .i64 f5, .int .i64 f6, .int .i64 f1, .int .i64 f2, .bool (f0 == 4), .int .i64 f7] 64)) (fun _ => False) := K1.trans k2 (fun _ _ e => e)
  have hSe2 := hSe.out _ K2.drew
  clear hSt hSe
  go_wp2_with fail
  go_region_held3 (fun w' => w'.cell? ⟨w.heap.size, 0, none⟩ = some (.pointer (some ⟨p, 0, none⟩)) ∧ w'.cell? ⟨w.heap.size, 1, none⟩ = some (.int .i64 l.k) ∧ w'.cell? ⟨w.heap.size, 2, none⟩ = some (.int .i64 l.e) ∧ w'.cell? ⟨w.heap.size, 3, none⟩ = some (.int .i64 l.a) ∧ w'.cell? ⟨w.heap.size, 4, none⟩ = some (.int .i64 l.b) ∧ w'.cell? ⟨w.heap.size, 5, none⟩ = some (.int .i64 l.c) ∧ w'.cell? ⟨w.heap.size, 6, none⟩ = some (.int .i64 l.eo) ∧ w'.cell? ⟨w.heap.size, 7, none⟩ = some (.int .i64 l.bo) ∧ w'.cell? ⟨w.heap.size, 8, none⟩ = some (.int .i64 l.s) ∧ w'.cell? ⟨w.heap.size, 9, none⟩ = some (.int .i64 l.g) ∧ w'.cell? ⟨w.heap.size, 10, none⟩ = some (.int .i64 off) ∧ w'.cell? ⟨w1'.heap.size, 4, none⟩ = some (.int .i64 f1)) (first | exact c12_keeps (Keeps.refl _ (fun _ => False)).drew id id C1 | exact c12_keeps hT2.2 hnB hnE (by assumption) | assumption)
    (first | (go_at_call 46; (with_reducible refine hSe2.mono ?_); rintro r w3 ⟨rfl, d2, hT2, hF2, h2, ht2⟩))
  all_goals (have HP : Hid (HeadPost w p F d l off gr G ff c w3) := ⟨d2, Turned.pre K2.drew hT2, hF2, h2, ht2⟩)
  all_goals clear hT2 h2 ht2 hSe2
  all_goals go_wp2_with fail
  all_goals go_ret2
  all_goals exact ⟨rfl, HP.out⟩
end Go.Proofs.YtmdnknbolgedgaaGreatDoor
/-
  First: the lowest slot of a set, by the table of math/bits.
-/
namespace Go.Proofs.YtmdnknbolgedgaaGreatDoor.Ct
open Go.RowKit
set_option linter.unusedVariables false

def tabL : List Nat := [0, 1, 56, 2, 57, 49, 28, 3, 61, 58, 42, 50, 38, 29, 17, 4, 62, 47, 59, 36, 45, 43, 51, 22, 53, 39, 33, 30, 24, 18, 12, 5, 63, 55, 48, 27, 60, 41, 37, 16, 46, 35, 44, 21, 52, 32, 23, 11, 54, 26, 40, 15, 34, 20, 31, 10, 25, 14, 19, 9, 13, 8, 7, 6]
/-- The table where the program lays it. -/
def TabAt (w : World) : Prop := ∀ k, k < 64 → w.cell? ⟨0, k, none⟩ = some (.int .u8 ((tabL.getD k 0 : Nat) : Int))
theorem TabAt.kp {w w' : World} (h : TabAt w) (k : Kp w w') : TabAt w' := fun i hi => k.cell (h i hi)

/-- The lowest slot; 8: there is none. -/
def firM (m : Nat) : Nat := if m % 2 = 1 then 0 else if m / 2 % 2 = 1 then 1 else if m / 4 % 2 = 1 then 2 else if m / 8 % 2 = 1 then 3 else if m / 16 % 2 = 1 then 4 else if m / 32 % 2 = 1 then 5 else if m / 64 % 2 = 1 then 6 else if m / 128 % 2 = 1 then 7 else 8
def low1 (x : Int) : Int := bits BinOp.and IntKind.u64 x (IntKind.u64.wrap (-x))
def low2 (x : Int) : Int := IntKind.u64.wrap (x * 285870213051353865)
def low3 (x : Int) : Int := x / 288230376151711744
theorem low_all : ∀ m, m < 256 → 0 < m → (((spread m : Nat) : Int) == 0) = false ∧ 0 ≤ low3 (low2 (low1 ((spread m : Nat) : Int))) ∧ low3 (low2 (low1 ((spread m : Nat) : Int))) < 64 ∧ tabL.getD (low3 (low2 (low1 ((spread m : Nat) : Int)))).toNat 0 = 8 * firM m + 7 := by decide +kernel

set_option maxHeartbeats 400000 in
theorem tz_walk (X L P I V : Int) (w : World) (h0 : (X == 0) = false) (h1 : bits BinOp.and IntKind.u64 X (IntKind.u64.wrap (-X)) = L) (h2 : IntKind.u64.wrap (L * 285870213051353865) = P) (h3 : P / 288230376151711744 = I) (hI : 0 ≤ I) (hI' : I < 64)
    (hc : w.cell? ⟨0, I.toNat, none⟩ = some (.int .u8 V)) (hV : 0 ≤ V) (hV' : V < 64) :
    Calls Tryz.prog 140 #[.int .u64 X] w fun e w' => e = .returned (.int .i64 V) ∧ w' = w := by
  go_enter Tryz.func140, Tryz.ntmps140
  go_wp2_with fail
  go_ret
  exact ⟨rfl, rfl⟩

set_option maxHeartbeats 400000 in
theorem tz_zero (w : World) :
    Calls Tryz.prog 140 #[.int .u64 0] w fun e w' => e = .returned (.int .i64 64) ∧ w' = w := by
  go_enter Tryz.func140, Tryz.ntmps140
  go_wp2_with fail
  go_ret
  exact ⟨rfl, rfl⟩

theorem firM_lt : ∀ m, m < 256 → 0 < m → firM m < 8 := by decide +kernel
theorem firM_le : ∀ m, m < 256 → firM m ≤ 8 := by decide +kernel

set_option maxHeartbeats 400000 in
theorem first_walk (z t f : Int) (w : World) (hT : ∀ w', Kp w w' → Calls Tryz.prog 140 #[.int .u64 z] w' fun e w'' => e = .returned (.int .i64 t) ∧ w'' = w') (hf : wrap64 (t.tdiv 8) = f) :
    Calls Tryz.prog 112 #[.agg #[.int .u64 z]] w fun e w' => e = .returned (.int .i64 f) ∧ Kp w w' := by
  go_enter Tryz.func112, Tryz.ntmps112
  go_wp2_with fail
  refine (hT _ ((Kp.refl _).alloc _)).mono ?_
  rintro e w' ⟨rfl, rfl⟩
  go_wp2_with fail
  go_ret
  exact ⟨by rw [← hf]; rfl, (Kp.refl _).alloc _⟩

def FirstIs (z f : Int) : Prop := ∃ m, m < 256 ∧ z = ((spread m : Nat) : Int) ∧ f = ((firM m : Nat) : Int)
theorem first_is {z f : Int} (q : FirstIs z f) {w : World} (ht : TabAt w) :
    Calls Tryz.prog 112 #[.agg #[.int .u64 z]] w fun e w' => e = .returned (.int .i64 f) ∧ Kp w w' := by
  obtain ⟨m, hm, rfl, rfl⟩ := q
  by_cases h0 : 0 < m
  · obtain ⟨a1, a2, a3, a4⟩ := low_all m hm h0
    have hl := firM_lt m hm h0
    refine first_walk _ ((8 * firM m + 7 : Nat) : Int) _ w (fun w' k => tz_walk _ _ _ _ _ w' a1 rfl rfl rfl a2 a3 ?_ (by omega) (by omega)) ?_
    · rw [← a4]
      exact ht.kp k _ (by show Int.toNat (low3 (low2 (low1 ((spread m : Nat) : Int)))) < 64; omega)
    · rw [Int.tdiv_eq_ediv_of_nonneg (by omega)]
      unfold wrap64
      omega
  · obtain rfl : m = 0 := by omega
    exact first_walk 0 64 8 w (fun w' _ => tz_zero w') (by decide +kernel)
end Go.Proofs.YtmdnknbolgedgaaGreatDoor.Ct
/-
  hasEmpty.
-/
namespace Go.Proofs.YtmdnknbolgedgaaGreatDoor
open Go.RowKit Go.Shelf Ly Ct
set_option linter.unusedVariables false

set_option maxHeartbeats 1000000 in
theorem hasEmpty_any (W : Nat) (hw : W < 18446744073709551616) (w : World) :
    Calls Tryz.prog 58 #[.int .u64 (W : Int)] w fun e w' => e = .returned (.bool (decide (0 < cntM (mk (· == 128) W)))) ∧ Keeps w w' (fun _ => False) := by
  have hE := fun V => mempty_any W hw V
  have hC := fun V => count_any (mk (· == 128) W) (mk_lt _ _) V
  unfold setV at hE hC
  generalize cntM (mk (· == 128) W) = n at *
  generalize spread (mk (· == 128) W) = M at *
  by_cases h0 : 0 < n
  · have h0' : (0 : Int) < (n : Int) := by omega
    rw [decide_eq_true h0]
    go_enter Tryz.func58, Tryz.ntmps58
    go_wp2_with fail
    refine (hE _).mono ?_
    rintro r w1 ⟨rfl, k1⟩
    go_wp2_with fail
    refine (hC _).mono ?_
    rintro r w2 ⟨rfl, k2⟩
    have K : Keeps w w2 (fun _ => False) := (Keeps.ofKp k1).trans (Keeps.ofKp k2) (fun _ _ e => e)
    go_wp2_with fail
    go_ret
    exact ⟨rfl, K⟩
  · have h0' : ¬ (0 : Int) < (n : Int) := by omega
    rw [decide_eq_false h0]
    go_enter Tryz.func58, Tryz.ntmps58
    go_wp2_with fail
    refine (hE _).mono ?_
    rintro r w1 ⟨rfl, k1⟩
    go_wp2_with fail
    refine (hC _).mono ?_
    rintro r w2 ⟨rfl, k2⟩
    have K : Keeps w w2 (fun _ => False) := (Keeps.ofKp k1).trans (Keeps.ofKp k2) (fun _ _ e => e)
    go_wp2_with fail
    go_ret
    exact ⟨rfl, K⟩
end Go.Proofs.YtmdnknbolgedgaaGreatDoor
/-
  meet.
-/
namespace Go.Proofs.YtmdnknbolgedgaaGreatDoor
open Go.RowKit Go.Shelf Ly Ct
set_option linter.unusedVariables false

/-- What meet leaves of the cells of a sought: the first vacant slot of the group i, if none was met. -/
def metC (cs : Array Value) (va : Int) (W i : Nat) : Array Value :=
  if va < 0 ∧ firM (mk (fun x => x == 128 || x == 254) W) < 8 then (cs.setIfInBounds 15 (.int .i64 ((i * 8 + firM (mk (fun x => x == 128 || x == 254) W) : Nat) : Int))).setIfInBounds 16 (.bool (hasM (mk (· == 128) W) (firM (mk (fun x => x == 128 || x == 254) W)))) else cs
theorem set_row {w : World} {q : Nat} {cs : Array Value} {t : TypeId} (h : w.heap[q]? = some (.cells cs t)) (i : Nat) (v : Value) : (w.setCell ⟨q, i, none⟩ v).heap[q]? = some (.cells (cs.setIfInBounds i v) t) := by
  have hlt := heap_lt h
  have hv := (Array.getElem?_eq_some_iff.1 h).2
  simp only [World.setCell, Array.getElem?_modify]
  simp [hlt, hv]

set_option maxRecDepth 100000 in
set_option maxHeartbeats 1000000 in
theorem meet_any (W i : Nat) (hw : W < 18446744073709551616) (hi : i ≤ 8192) (w : World) (hT : TabAt w) (B : Nat) (cs : Array Value) (va : Int) (em : Bool) (hB : w.heap[B]? = some (.cells cs 103)) (h15 : cs[15]? = some (.int .i64 va)) (h16 : cs[16]? = some (.bool em)) :
    Calls Tryz.prog 75 #[.pointer (some ⟨B, 0, none⟩), .int .u64 (W : Int), .int .i64 (i : Int)] w fun e w' => (∃ v, e = .returned v) ∧ w'.heap[B]? = some (.cells (metC cs va W i) 103) ∧ Keeps w w' (fun k => k = B) := by
  have hV := fun V => vacant_any W hw V
  have hm := mk_lt (fun x => x == 128 || x == 254) W
  have hf8 := firM_le _ hm
  have hF : ∀ V, Keeps w V (fun _ => False) → Calls Tryz.prog 112 #[setV (mk (fun x => x == 128 || x == 254) W)] V fun e w' => e = .returned (.int .i64 ((firM (mk (fun x => x == 128 || x == 254) W) : Nat) : Int)) ∧ Ct.Kp V w' := fun V k =>
    first_is ⟨_, hm, rfl, rfl⟩ (hT.kp (k.below (Nat.le_refl _) (fun _ _ e => e)))
  have hE := fun V => mempty_any W hw V
  have hH : firM (mk (fun x => x == 128 || x == 254) W) < 8 → ∀ V, Calls Tryz.prog 78 #[.agg #[.int .u64 ((spread (mk (· == 128) W) : Nat) : Int)], .int .i64 ((firM (mk (fun x => x == 128 || x == 254) W) : Nat) : Int)] V fun e w' => e = .returned (.bool (hasM (mk (· == 128) W) (firM (mk (fun x => x == 128 || x == 254) W)))) ∧ Ct.Kp V w' := fun h8 V =>
    has_is (Or.inl ⟨mk (· == 128) W, firM (mk (fun x => x == 128 || x == 254) W), rfl, rfl, h8, rfl⟩) V
  unfold setV at hV hF hE
  unfold metC
  generalize hasM (mk (· == 128) W) (firM (mk (fun x => x == 128 || x == 254) W)) = hb at *
  generalize firM (mk (fun x => x == 128 || x == 254) W) = n at *
  generalize spread (mk (fun x => x == 128 || x == 254) W) = Mv at *
  generalize spread (mk (· == 128) W) = Me at *
  clear hm
  have hsz : 16 < cs.size := by
    refine Nat.lt_of_not_le fun hn => ?_
    rw [Array.getElem?_eq_none hn] at h16
    cases h16
  have hBl := heap_lt hB
  have hc : ∀ W2, Keeps w W2 (fun _ => False) → W2.cell? ⟨B, 15, none⟩ = some (.int .i64 va) ∧ W2.cell? ⟨B, 16, none⟩ = some (.bool em) ∧ W2.frozen? ⟨B, 15, none⟩ = false ∧ W2.frozen? ⟨B, 16, none⟩ = false ∧ W2.heap[B]? = some (.cells cs 103) := fun W2 k => by
    have e := (k.block B hBl id).trans hB
    refine ⟨?_, ?_, ?_, ?_, e⟩
    · simp [World.cell?, e, h15]
    · simp [World.cell?, e, h16]
    · simp [World.frozen?, e]
    · simp [World.frozen?, e]
  by_cases h0 : va < 0
  · by_cases h8 : n < 8
    · rw [if_pos ⟨h0, h8⟩]
      have h8' : (n : Int) < 8 := by omega
      have hHn := hH h8
      have hi' : (i : Int) ≤ 8192 := by omega
      have hcast : ((i * 8 + n : Nat) : Int) = (i : Int) * 8 + (n : Int) := by omega
      rw [hcast]
      clear hH hT
      go_enter Tryz.func75, Tryz.ntmps75
      go_wp2_with fail
      refine (hV _).mono ?_
      rintro r w1 ⟨rfl, k1⟩
      go_wp2_with fail
      refine (hF _ (Keeps.ofKp k1)).mono ?_
      rintro r w2 ⟨rfl, k2⟩
      have K2 : Keeps w w2 (fun _ => False) := (Keeps.ofKp k1).trans (Keeps.ofKp k2) (fun _ _ e => e)
      obtain ⟨c15, c16, f15, f16, hB2⟩ := hc w2 K2
      clear hV hF
      go_wp2_with fail
      obtain ⟨W3, hW3⟩ : ∃ W3, W3 = w2.setCell ⟨B, 15, none⟩ (.int .i64 ((i : Int) * 8 + (n : Int))) := ⟨_, rfl⟩
      have hB3 : W3.heap[B]? = some (.cells (cs.setIfInBounds 15 (.int .i64 ((i : Int) * 8 + (n : Int)))) 103) := by rw [hW3]; exact set_row hB2 15 _
      have K2' : Keeps w w2 (fun k => k = B) := K2.mono (fun _ _ e => e.elim)
      have K3 : Keeps w W3 (fun k => k = B) := by rw [hW3]; exact K2'.setCell ⟨B, 15, none⟩ (fun _ => rfl) _
      rw [← hW3]
      clear hW3 c15 c16 f15 f16 hB2 K2 K2'
      refine (hE _).mono ?_
      rintro r w4 ⟨rfl, k4⟩
      go_wp2_with fail
      refine (hHn _).mono ?_
      rintro r w5 ⟨rfl, k5⟩
      have k35 : Keeps W3 w5 (fun _ => False) := (Keeps.ofKp k4).trans (Keeps.ofKp k5) (fun _ _ e => e)
      have hB5 := k35.blk hB3
      have K5 : Keeps w w5 (fun k => k = B) := K3.trans (k35.mono (fun _ _ e => e.elim)) (fun _ _ e => e)
      have c16 : w5.cell? ⟨B, 16, none⟩ = some (.bool em) := by
        simp only [World.cell?, hB5]
        simp [h16]
      have f16 : w5.frozen? ⟨B, 16, none⟩ = false := by simp [World.frozen?, hB5]
      have HF : Hid ((w5.setCell ⟨B, 16, none⟩ (.bool hb)).heap[B]? = some (.cells ((cs.setIfInBounds 15 (.int .i64 ((i : Int) * 8 + (n : Int)))).setIfInBounds 16 (.bool hb)) 103) ∧ Keeps w (w5.setCell ⟨B, 16, none⟩ (.bool hb)) (fun k => k = B)) := ⟨set_row hB5 16 _, K5.setCell ⟨B, 16, none⟩ (fun _ => rfl) _⟩
      clear hB3 hB5 K3 K5 k35 hE hHn
      go_wp2_with fail
      go_end0
      exact ⟨⟨_, rfl⟩, HF.out⟩
    · rw [if_neg (fun q => h8 q.2)]
      have h8' : ¬ (n : Int) < 8 := by omega
      clear hH hT
      go_enter Tryz.func75, Tryz.ntmps75
      go_wp2_with fail
      refine (hV _).mono ?_
      rintro r w1 ⟨rfl, k1⟩
      go_wp2_with fail
      refine (hF _ (Keeps.ofKp k1)).mono ?_
      rintro r w2 ⟨rfl, k2⟩
      have K2 : Keeps w w2 (fun _ => False) := (Keeps.ofKp k1).trans (Keeps.ofKp k2) (fun _ _ e => e)
      obtain ⟨c15, c16, f15, f16, hB2⟩ := hc w2 K2
      have HF : Hid (w2.heap[B]? = some (.cells cs 103) ∧ Keeps w w2 (fun k => k = B)) := ⟨hB2, K2.mono (fun _ _ e => e.elim)⟩
      clear hV hF hB2 K2
      go_wp2_with fail
      go_end0
      exact ⟨⟨_, rfl⟩, HF.out⟩
  · rw [if_neg (fun q => h0 q.1)]
    clear hH hT
    go_enter Tryz.func75, Tryz.ntmps75
    go_wp2_with fail
    refine (hV _).mono ?_
    rintro r w1 ⟨rfl, k1⟩
    go_wp2_with fail
    refine (hF _ (Keeps.ofKp k1)).mono ?_
    rintro r w2 ⟨rfl, k2⟩
    have K2 : Keeps w w2 (fun _ => False) := (Keeps.ofKp k1).trans (Keeps.ofKp k2) (fun _ _ e => e)
    obtain ⟨c15, c16, f15, f16, hB2⟩ := hc w2 K2
    have HF : Hid (w2.heap[B]? = some (.cells cs 103) ∧ Keeps w w2 (fun k => k = B)) := ⟨hB2, K2.mono (fun _ _ e => e.elim)⟩
    clear hV hF hB2 K2
    go_wp2_with fail
    go_end0
    exact ⟨⟨_, rfl⟩, HF.out⟩
end Go.Proofs.YtmdnknbolgedgaaGreatDoor
