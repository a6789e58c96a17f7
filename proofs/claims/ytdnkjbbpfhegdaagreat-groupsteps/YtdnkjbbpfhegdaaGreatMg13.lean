import Derived.Deep.MidRow
import Derived.Laws.Tables
import Derived.Laws.StructEq
import Derived.DeepKeys
import Derived.Test.YtdnkjbbpfhegdaaGreatMg12
/-
  The law's all: eight cells in an array.
-/
namespace Go.Proofs.YtdnkjbbpfhegdaaGreat
open Go.RowKit Go.Shelf Ly Ct
set_option linter.unusedVariables false

/-- The cell number m of eight in a row. -/
def atG (f : Nat → GC) (m : Nat) : Value :=
  if m % 5 = 0 then .int .i64 (f (m / 5)).kind else if m % 5 = 1 then .int .i64 (f (m / 5)).tag else if m % 5 = 2 then .string (f (m / 5)).key else if m % 5 = 3 then .string (f (m / 5)).elem else .int .i64 (f (m / 5)).birth
def cs8 (f : Nat → GC) : List Value := (List.range 40).map (atG f)
theorem cs8_length (f : Nat → GC) : (cs8 f).length = 40 := by simp [cs8]
theorem atG_at (f : Nat → GC) (k i : Nat) (hi : i < 5) : atG f (5 * k + i) = if i = 0 then .int .i64 (f k).kind else if i = 1 then .int .i64 (f k).tag else if i = 2 then .string (f k).key else if i = 3 then .string (f k).elem else .int .i64 (f k).birth := by
  unfold atG
  rw [show (5 * k + i) % 5 = i by omega, show (5 * k + i) / 5 = k by omega]
/-- An array of eight cells in a block. -/
def RowG (w : World) (b : Nat) (t : TypeId) (f : Nat → GC) : Prop := ∃ arr : Array Value, w.heap[b]? = some (.cells arr t) ∧ arr.size = 40 ∧ ∀ j, j < 40 → arr[j]? = some (atG f j)
theorem RowG.cell {w : World} {b : Nat} {t : TypeId} {f : Nat → GC} (h : RowG w b t f) {j : Nat} (hj : j < 40) : w.cell? ⟨b, j, none⟩ = some (atG f j) ∧ w.frozen? ⟨b, j, none⟩ = false := by
  obtain ⟨arr, h1, h2, h3⟩ := h
  simp [World.cell?, World.frozen?, h1, h3 j hj]
theorem RowG.keeps {w w1 : World} {b : Nat} {t : TypeId} {f : Nat → GC} {S : Nat → Prop} (h : RowG w b t f) (k : Keeps w w1 S) (hS : ¬ S b) : RowG w1 b t f := by
  obtain ⟨arr, h1, h2, h3⟩ := h
  exact ⟨arr, (k.block b (heap_lt h1) hS).trans h1, h2, h3⟩
theorem RowG.range {w : World} {b : Nat} {t : TypeId} {f : Nat → GC} (h : RowG w b t f) : w.rangeAt b 0 (cs8 f) := by
  intro j v hv
  have hj : j < 40 := by
    have := (List.getElem?_eq_some_iff.1 hv).1
    rw [cs8_length] at this
    exact this
  have : (cs8 f)[j]? = some (atG f j) := by simp [cs8, hj]
  rw [this] at hv
  rw [Nat.zero_add, (h.cell hj).1, hv]
theorem RowG.set1 {w : World} {b : Nat} {t : TypeId} {arr : Array Value} (h : w.heap[b]? = some (.cells arr t)) (j : Nat) (hj : j < arr.size) (v : Value) : (w.setCell ⟨b, j, none⟩ v).heap[b]? = some (.cells (arr.set j v hj) t) := set_one' h j v hj
/-- Cell k is stored. -/
abbrev set5 (w : World) (b k : Nat) (x : GC) : World := ((((w.setCell ⟨b, k * 5, none⟩ (.int .i64 x.kind)).setCell ⟨b, k * 5 + 1, none⟩ (.int .i64 x.tag)).setCell ⟨b, k * 5 + 2, none⟩ (.string x.key)).setCell ⟨b, k * 5 + 3, none⟩ (.string x.elem)).setCell ⟨b, k * 5 + 4, none⟩ (.int .i64 x.birth)
theorem RowG.set5 {w : World} {b : Nat} {t : TypeId} {f : Nat → GC} (h : RowG w b t f) {k : Nat} (hk : k < 8) (x : GC) : RowG (set5 w b k x) b t (updC f k x) := by
  obtain ⟨arr, h1, h2, h3⟩ := h
  have g0 := RowG.set1 h1 (k * 5) (by omega) (.int .i64 x.kind)
  have g1 := RowG.set1 g0 (k * 5 + 1) (by simp; omega) (.int .i64 x.tag)
  have g2 := RowG.set1 g1 (k * 5 + 2) (by simp; omega) (.string x.key)
  have g3 := RowG.set1 g2 (k * 5 + 3) (by simp; omega) (.string x.elem)
  have g4 := RowG.set1 g3 (k * 5 + 4) (by simp; omega) (.int .i64 x.birth)
  refine ⟨_, g4, by simp [h2], fun j hj => ?_⟩
  have hold := h3 j hj
  by_cases hjk : j / 5 = k
  · have hm : j % 5 = 0 ∨ j % 5 = 1 ∨ j % 5 = 2 ∨ j % 5 = 3 ∨ j % 5 = 4 := by omega
    rcases hm with q | q | q | q | q
    all_goals
      have hj5 := Nat.div_add_mod j 5
      rw [hjk, q, Nat.mul_comm] at hj5
      subst hj5
      simp only [Array.getElem?_set]
      unfold atG
      simp [q, hjk, updC]
      try omega
  · have e : atG (updC f k x) j = atG f j := by
      unfold atG updC
      rw [if_neg hjk]
    rw [e, ← hold]
    have n0 : ¬ k * 5 = j := by omega
    have n1 : ¬ k * 5 + 1 = j := by omega
    have n2 : ¬ k * 5 + 2 = j := by omega
    have n3 : ¬ k * 5 + 3 = j := by omega
    have n4 : ¬ k * 5 + 4 = j := by omega
    simp only [Array.getElem?_set, if_neg n0, if_neg n1, if_neg n2, if_neg n3, if_neg n4]
theorem set5_keeps (w : World) (b k : Nat) (x : GC) : Keeps w (set5 w b k x) (fun i => i = b) :=
  (((((Keeps.refl w (fun i => i = b)).setCell _ (fun _ => rfl) _).setCell _ (fun _ => rfl) _).setCell _ (fun _ => rfl) _).setCell _ (fun _ => rfl) _).setCell _ (fun _ => rfl) _
theorem alloc3 {w : World} {o1 o2 o3 : Obj} {P : World → Prop} (h : ∀ W0, W0.heap[w.heap.size]? = some o1 → W0.heap[w.heap.size + 1]? = some o2 → W0.heap[w.heap.size + 1 + 1]? = some o3 → W0.heap.size = w.heap.size + 3 → Keeps w W0 (fun _ => False) → P W0) : P (((w.alloc o1).alloc o2).alloc o3) := by
  refine h _ ?_ ?_ ?_ (by simp) ((((Keeps.refl _ _).alloc _).alloc _).alloc _)
  · exact (Below.heap_alloc _ _ _ (by simp <;> omega)).trans ((Below.heap_alloc _ _ _ (by simp)).trans (heap_alloc_new _ _))
  · have := heap_alloc_new (w.alloc o1) o2
    have h2 : ((w.alloc o1).alloc o2).heap[w.heap.size + 1]? = some o2 := by simpa using this
    exact (Below.heap_alloc _ _ _ (by simp)).trans h2
  · have := heap_alloc_new ((w.alloc o1).alloc o2) o3
    simpa using this

theorem sizeG : (Tryz.prog.info? 36).map (·.size) = some 40 := by kernel_rfl
theorem oneG (f : Nat → GC) : ∀ v ∈ cs8 f, v.oneCell' = true := by
  intro v hv
  unfold cs8 at hv
  obtain ⟨j, _, rfl⟩ := List.mem_map.1 hv
  unfold atG
  split
  · rfl
  · split
    · rfl
    · split
      · rfl
      · split <;> rfl
theorem RowG.there {w : World} {b : Nat} {t : TypeId} {f : Nat → GC} (h : RowG w b t f) : w.there b 0 40 := by
  intro j hj
  rw [Nat.zero_add, (h.cell hj).1]
  exact ⟨rfl, (h.cell hj).2⟩
theorem Keeps.setCells {w : World} {S : Nat → Prop} {b : Nat} (hb : b < w.heap.size → S b) : ∀ (vs : List Value) (o : Nat) {w1 : World}, Keeps w w1 S → Keeps w (w1.setCells b o vs) S
  | [], _, _, h => h
  | v :: r, o, w1, h => Keeps.setCells hb r (o + 1) (h.setCell ⟨b, o, none⟩ hb v)
/-- What the first k of eight cells are, the others as at first. -/
def mixG (c : Nat → GC) : Nat → Nat → GC
  | 0 => fun _ => GC.zero
  | k + 1 => updC (mixG c k) k (c k)
theorem mixG_at (c : Nat → GC) : ∀ k j, mixG c k j = if j < k then c j else GC.zero
  | 0, j => by simp [mixG]
  | k + 1, j => by
    show updC (mixG c k) k (c k) j = _
    unfold updC
    rw [mixG_at c k j]
    by_cases h : j = k
    · subst h
      simp
    · by_cases h2 : j < k
      · rw [if_neg h, if_pos h2, if_pos (by omega)]
      · rw [if_neg h, if_neg h2, if_neg (by omega)]
theorem cs8_congr {f g : Nat → GC} (h : ∀ i, i < 8 → f i = g i) : cs8 f = cs8 g := by
  unfold cs8
  refine List.map_congr_left fun j hj => ?_
  have hj40 := List.mem_range.1 hj
  unfold atG
  rw [h (j / 5) (by omega)]

/-- A result in a variable of many cells. -/
theorem results_var {P : Program} {fn : Func} {p : Tmp} {ty : TypeId} (h : fn.results = #[.cell p ty]) (tmps : Array Value) (w : World) (b : Nat) {v : Value} (hp : tmps.getD p undef = .pointer (some ⟨b, 0, none⟩)) (hv : (loadVar ty ⟨b, 0, none⟩).run P w = .ok v w) : (results fn tmps).run P w = .ok v w := by
  have hp' : tmps[p]?.getD undef = .pointer (some ⟨b, 0, none⟩) := by simpa using hp
  simp [results, h, hp', asAddr, hv]
theorem zeroG : (#[.int .i64 0, .int .i64 0, .string ⟨#[]⟩, .string ⟨#[]⟩, .int .i64 0, .int .i64 0, .int .i64 0, .string ⟨#[]⟩, .string ⟨#[]⟩, .int .i64 0, .int .i64 0, .int .i64 0, .string ⟨#[]⟩, .string ⟨#[]⟩, .int .i64 0, .int .i64 0, .int .i64 0, .string ⟨#[]⟩, .string ⟨#[]⟩, .int .i64 0, .int .i64 0, .int .i64 0, .string ⟨#[]⟩, .string ⟨#[]⟩, .int .i64 0, .int .i64 0, .int .i64 0, .string ⟨#[]⟩, .string ⟨#[]⟩, .int .i64 0, .int .i64 0, .int .i64 0, .string ⟨#[]⟩, .string ⟨#[]⟩, .int .i64 0, .int .i64 0, .int .i64 0, .string ⟨#[]⟩, .string ⟨#[]⟩, .int .i64 0] : Array Value) = (cs8 (fun _ => GC.zero)).toArray := by kernel_rfl
theorem rowG_of {w : World} {b : Nat} {t : TypeId} {f : Nat → GC} (h : w.heap[b]? = some (.cells (cs8 f).toArray t)) : RowG w b t f :=
  ⟨_, h, by simp [cs8_length], fun j hj => by simp [cs8, hj]⟩

set_option maxHeartbeats 2000000 in
set_option maxRecDepth 100000 in
theorem all_any {w : World} {p : Nat} {F : Nat → Prop} {d : AD} (hA : Arena w p F d) (hF : d.Fine) (l : Lay) (off : Nat) (en : Int) (c : Nat → GC) (hG : GroupAt d l off c) (ho : fitsI (off : Int)) (hn : fitsI l.g) :
    Calls Tryz.prog 7 #[.agg #[.pointer (some ⟨p, 0, none⟩), .int .i64 l.k, .int .i64 l.e, .int .i64 l.a, .int .i64 l.b, .int .i64 l.c, .int .i64 l.eo, .int .i64 l.bo, .int .i64 l.s, .int .i64 l.g, .int .i64 (off : Int), .int .i64 en]] w fun e w' => e = .returned (.agg (cs8 c).toArray) ∧ Keeps w w' (fun _ => False) := by
  have hcs : cs8 c = cs8 (mixG c 8) := cs8_congr fun i hi => by rw [mixG_at, if_pos hi]
  rw [hcs]
  have hAt := fun V => at_any p l (off : Int) V
  have hCe := fun V (k : Keeps w V (fun _ => False)) (i : Nat) (hi : i < 8) => cell_any (hA.keeps k (fun _ _ _ e => e)) hF l (off : Int) (i : Int) ho hn
  have hCe2 : ∀ V, Keeps w V (fun _ => False) → ∀ i : Nat, i < 8 → Calls Tryz.prog 13 #[.agg #[.pointer (some ⟨p, 0, none⟩), .int .i64 l.k, .int .i64 l.e, .int .i64 l.a, .int .i64 l.b, .int .i64 l.c, .int .i64 l.eo, .int .i64 l.bo, .int .i64 l.s, .int .i64 l.g, .int .i64 (off : Int)], .int .i64 (i : Int)] V fun e w' => CellPost V (c i) 0 e w' := fun V k i hi => by
    have := hCe V k i hi
    rw [hG.cell hi] at this
    exact this
  clear hCe hG hA hF
  go_enter Tryz.func7, Tryz.ntmps7
  go_wp2_with fail
  refine alloc3 (P := fun W => Code.wp _ _ _ _ W) fun W0 hb hr hl hz K0 => ?_
  have hl2 : W0.heap[w.heap.size + 1 + 1]? = some (.cells (#[.int .i64 0, .int .i64 0, .string ⟨#[]⟩, .string ⟨#[]⟩, .int .i64 0, .int .i64 0, .int .i64 0, .string ⟨#[]⟩, .string ⟨#[]⟩, .int .i64 0, .int .i64 0, .int .i64 0, .string ⟨#[]⟩, .string ⟨#[]⟩, .int .i64 0, .int .i64 0, .int .i64 0, .string ⟨#[]⟩, .string ⟨#[]⟩, .int .i64 0, .int .i64 0, .int .i64 0, .string ⟨#[]⟩, .string ⟨#[]⟩, .int .i64 0, .int .i64 0, .int .i64 0, .string ⟨#[]⟩, .string ⟨#[]⟩, .int .i64 0, .int .i64 0, .int .i64 0, .string ⟨#[]⟩, .string ⟨#[]⟩, .int .i64 0, .int .i64 0, .int .i64 0, .string ⟨#[]⟩, .string ⟨#[]⟩, .int .i64 0] : Array Value) 36) := hl
  rw [zeroG] at hl2
  have R0 : RowG W0 (w.heap.size + 1 + 1) 36 (mixG c 0) := rowG_of hl2
  have hr2 : W0.heap[w.heap.size + 1]? = some (.cells (#[.int .i64 0, .int .i64 0, .string ⟨#[]⟩, .string ⟨#[]⟩, .int .i64 0, .int .i64 0, .int .i64 0, .string ⟨#[]⟩, .string ⟨#[]⟩, .int .i64 0, .int .i64 0, .int .i64 0, .string ⟨#[]⟩, .string ⟨#[]⟩, .int .i64 0, .int .i64 0, .int .i64 0, .string ⟨#[]⟩, .string ⟨#[]⟩, .int .i64 0, .int .i64 0, .int .i64 0, .string ⟨#[]⟩, .string ⟨#[]⟩, .int .i64 0, .int .i64 0, .int .i64 0, .string ⟨#[]⟩, .string ⟨#[]⟩, .int .i64 0, .int .i64 0, .int .i64 0, .string ⟨#[]⟩, .string ⟨#[]⟩, .int .i64 0, .int .i64 0, .int .i64 0, .string ⟨#[]⟩, .string ⟨#[]⟩, .int .i64 0] : Array Value) 36) := hr
  rw [zeroG] at hr2
  have Q0 : RowG W0 (w.heap.size + 1) 36 (fun _ => GC.zero) := rowG_of hr2
  have D0 := n12_of hb
  clear hl hr hl2 hr2 hb
  rename_i Q9 KX hKX
  have HKX := hide hKX
  clear hKX
  go_loopw [4] (fun i wr => ∃ k : Nat, i = .int .i64 (k : Int) ∧ k ≤ 8 ∧ RowG wr (w.heap.size + 1 + 1) 36 (mixG c k) ∧ Keeps W0 wr (fun i => i = w.heap.size + 1 + 1)) (fun i _ => 8 - (intOf i).toNat)
  case atStart => exact ⟨0, rfl, Nat.zero_le _, R0, Keeps.refl _ _⟩
  case round =>
    obtain ⟨k, rfl, hk, hR, K⟩ := hrel
    have Kw : Keeps w wr (fun _ => False) := K0.trans K (fun i hi e => by omega)
    obtain ⟨d0, d1, d2, d3, d4, d5, d6, d7, d8, d9, d10, d11⟩ := n12_keeps K (by omega) D0
    clear D0
    by_cases hlt : k < 8
    · have hlt' : (k : Int) < 8 := by omega
      have hCk := fun V kV => hCe2 V kV k hlt
      clear hCe2 R0 hcs
      go_wp2_with fail
      refine (hAt _).mono ?_
      rintro r w1 ⟨rfl, k1⟩
      have K1 := Kw.trans k1 (fun _ _ e => e)
      go_wp2_with fail
      refine (hCk _ K1).mono ?_
      rintro r w2 ⟨rfl, k2⟩
      have K2 : Keeps wr w2 (fun _ => False) := k1.trans k2 (fun _ _ e => e)
      have hR2 := hR.keeps K2 id
      obtain ⟨r0, q0⟩ := hR2.cell (j := k * 5) (by omega)
      obtain ⟨r1, q1⟩ := hR2.cell (j := k * 5 + 1) (by omega)
      obtain ⟨r2, q2⟩ := hR2.cell (j := k * 5 + 2) (by omega)
      obtain ⟨r3, q3⟩ := hR2.cell (j := k * 5 + 3) (by omega)
      obtain ⟨r4, q4⟩ := hR2.cell (j := k * 5 + 4) (by omega)
      have hlt2 : w.heap.size + 1 + 1 < w2.heap.size := by
        have := K.size
        have := K2.size
        omega
      have HR5 := hide hR2
      clear hR hR2
      unfold GC.val
      go_wp2_with fail
      go_roundw
      case rel => exact ⟨k + 1, by go_num, by omega, (HR5.out.set5 hlt (c k)).keeps ((Keeps.refl _ (fun _ => False)).alloc _) id, ((K.trans K2 (fun _ _ e => e.elim)).trans (set5_keeps w2 (w.heap.size + 1 + 1) k (c k)) (fun _ _ e => e)).alloc _⟩
      case measure => simp [intOf]; omega
    · have hk8 : k = 8 := by omega
      subst hk8
      have hsz : (Tryz.prog.info? 36).map (·.size) = some (cs8 (mixG c 8)).length := by rw [cs8_length]; exact sizeG
      have hsz2 : (Tryz.prog.info? 36).map (·.size) = some (cs8 (mixG c 8)).toArray.size := by rw [List.size_toArray]; exact hsz
      have hQ : RowG wr (w.heap.size + 1) 36 (fun _ => GC.zero) := Q0.keeps K (by omega)
      have hth : wr.there (w.heap.size + 1) 0 (cs8 (mixG c 8)).length := by rw [cs8_length]; exact hQ.there
      have hth2 : wr.there (w.heap.size + 1) 0 (cs8 (mixG c 8)).toArray.size := by rw [List.size_toArray]; exact hth
      have hrd := run_loadVar_mid (P := Tryz.prog) (wr.setCells (w.heap.size + 1) 0 (cs8 (mixG c 8))) (w.heap.size + 1) 0 36 (cs8 (mixG c 8)) _ (World.rangeAt_setCells_same wr _ _ _ hth) Tryz.underlying36 rfl hsz
      have K9 := hide (Keeps.setCells (S := fun _ => False) (b := w.heap.size + 1) (fun h => by omega) (cs8 (mixG c 8)) 0 Kw)
      have hrg := hR.range
      have hone := all_oneCell_toArray (oneG (mixG c 8))
      have HRR := hide (And.intro hrg (And.intro hsz (And.intro hth2 (And.intro hsz2 (And.intro hone hrd)))))
      clear hrg hone hrd hsz hsz2 hQ hth hth2 hR Q0 R0 hcs hCe2 hAt d0 d1 d2 d3 d4 d5 d6 d7 d8 d9 d10 d11
      go_wp2_with fail
      obtain ⟨hrg, hsz, hth2, hsz2, hone, hrd⟩ := HRR.out
      refine HKX.out _ _ ?_
      refine wp_seq ?_
      refine wp_region_list ?_
      refine wpList_load_mid rfl 36 (Operand.tmp 3) rfl (w.heap.size + 1 + 1) 0 rfl (cs8 (mixG c 8)) _ hrg Tryz.underlying36 rfl hsz ?_
      refine wpList_store_mid rfl 36 (Operand.tmp 2) (Operand.tmp 29) rfl (w.heap.size + 1) 0 (cs8 (mixG c 8)).toArray rfl rfl hth2 hsz2 hone ?_
      rw [List.toList_toArray]
      clear hrg hsz hth2 hsz2 hone HRR
      go_wp2_with fail
      exact bodyPost_ret (results_var (p := 2) (ty := 36) rfl _ _ (w.heap.size + 1) rfl hrd) rfl ⟨rfl, K9.out⟩
end Go.Proofs.YtdnkjbbpfhegdaaGreat
/-
  The law's prune.
-/
namespace Go.Proofs.YtdnkjbbpfhegdaaGreat
open Go.RowKit Go.Shelf Ly Ct
set_option linter.unusedVariables false

/-- A new array of eight cells, and what is stored into it at once. -/
theorem wpList_arr {ops : Array Oper} {rest : List Oper} {oA oS : Oper} {a : Act} {w : World} {Q : Exit → Act → World → Prop} (dst src : Tmp) (f : Nat → GC)
    (hgA : oA.guard = none) (hoA : oA.op = .alloc 36) (hdA : oA.dst = some dst) (hgS : oS.guard = none) (hoS : oS.op = .store 36 (.tmp dst) (.tmp src))
    (hx : (a.put (some dst) (.pointer (some ⟨w.heap.size, 0, none⟩))).eval (.tmp dst) = .pointer (some ⟨w.heap.size, 0, none⟩)) (hy : (a.put (some dst) (.pointer (some ⟨w.heap.size, 0, none⟩))).eval (.tmp src) = .agg (cs8 f).toArray)
    (h : ∀ W, RowG W w.heap.size 36 f → Keeps w W (fun _ => False) → W.heap.size = w.heap.size + 1 → wpList Tryz.prog ops Q rest ((a.put (some dst) (.pointer (some ⟨w.heap.size, 0, none⟩))).put oS.dst undef) W) : wpList Tryz.prog ops Q (oA :: oS :: rest) a w := by
  have hrun : (execOp a.eval oA).run Tryz.prog w = .ok (.value (.pointer (some ⟨w.heap.size, 0, none⟩))) (w.alloc (.cells (cs8 (fun _ => GC.zero)).toArray 36)) := by
    unfold execOp
    rw [hoA]
    kernel_rfl
  refine wpList_plain hgA fun K hK => ?_
  unfold Oper.wp
  rw [hrun, Oper.upon_value, hdA]
  refine hK _ _ ?_
  have hg := heap_alloc_new w (.cells (cs8 (fun _ => GC.zero)).toArray 36)
  refine wpList_store_row hgS 36 (.tmp dst) (.tmp src) hoS w.heap.size (cs8 f).toArray hx hy 36 _ hg (by rw [List.size_toArray, cs8_length]; exact sizeG) (by rw [List.size_toArray, List.size_toArray, cs8_length, cs8_length]) (all_oneCell_toArray (oneG f)) ?_
  refine h _ (rowG_of (heap_setRow_same hg)) (((Keeps.refl w (fun _ => False)).alloc _).setRow _ (fun q => absurd q (Nat.lt_irrefl _)) _) ?_
  rw [setRow_size]
  simp

theorem RowG.congr {w : World} {b : Nat} {t : TypeId} {f h : Nat → GC} (r : RowG w b t f) (e : ∀ i, i < 8 → f i = h i) : RowG w b t h := by
  obtain ⟨arr, h1, h2, h3⟩ := r
  refine ⟨arr, h1, h2, fun j hj => ?_⟩
  rw [h3 j hj]
  unfold atG
  rw [e (j / 5) (by omega)]
/-- The kind of cell k is stored. -/
theorem RowG.kind {w : World} {b : Nat} {t : TypeId} {f : Nat → GC} (r : RowG w b t f) {k : Nat} (hk : k < 8) (v : Int) : RowG (w.setCell ⟨b, k * 5, none⟩ (.int .i64 v)) b t (updC f k { f k with kind := v }) := by
  obtain ⟨arr, h1, h2, h3⟩ := r
  refine ⟨_, RowG.set1 h1 (k * 5) (by omega) _, by simp [h2], fun j hj => ?_⟩
  have hold := h3 j hj
  rw [Array.getElem?_set]
  by_cases hj5 : k * 5 = j
  · subst hj5
    rw [if_pos rfl]
    unfold atG updC
    rw [show k * 5 % 5 = 0 by omega, show k * 5 / 5 = k by omega, if_pos rfl, if_pos rfl]
  · rw [if_neg hj5, hold]
    unfold atG updC
    by_cases hjk : j / 5 = k
    · have : ¬ j % 5 = 0 := by omega
      rw [if_neg this, if_neg this, if_pos hjk, hjk]
    · rw [if_neg hjk]
def prC (c : Nat → GC) (k : Nat) : Nat → GC := fun j => if j < k then pruC (c j) else c j
def cntK (c : Nat → GC) (k : Nat) : Nat := (List.range k).countP (fun i => decide ((c i).kind = 1))
theorem cntK_succ (c : Nat → GC) (k : Nat) : cntK c (k + 1) = cntK c k + (if (c k).kind = 1 then 1 else 0) := by
  unfold cntK
  rw [List.range_succ, List.countP_append]
  by_cases h : (c k).kind = 1 <;> simp [h]
theorem cntK_le (c : Nat → GC) (k : Nat) : cntK c k ≤ k := by
  have := List.countP_le_length (p := fun i => decide ((c i).kind = 1)) (l := List.range k)
  unfold cntK
  simpa using this

end Go.Proofs.YtdnkjbbpfhegdaaGreat
/-
  Two equal rows of eight cells are equal.
-/
namespace Go.Proofs.YtdnkjbbpfhegdaaGreat
open Go.RowKit Go.Shelf Ly Ct
set_option linter.unusedVariables false
theorem cs8_out (f : Nat → GC) : (cs8 f).toArray = #[.int .i64 (f 0).kind, .int .i64 (f 0).tag, .string (f 0).key, .string (f 0).elem, .int .i64 (f 0).birth, .int .i64 (f 1).kind, .int .i64 (f 1).tag, .string (f 1).key, .string (f 1).elem, .int .i64 (f 1).birth, .int .i64 (f 2).kind, .int .i64 (f 2).tag, .string (f 2).key, .string (f 2).elem, .int .i64 (f 2).birth, .int .i64 (f 3).kind, .int .i64 (f 3).tag, .string (f 3).key, .string (f 3).elem, .int .i64 (f 3).birth, .int .i64 (f 4).kind, .int .i64 (f 4).tag, .string (f 4).key, .string (f 4).elem, .int .i64 (f 4).birth, .int .i64 (f 5).kind, .int .i64 (f 5).tag, .string (f 5).key, .string (f 5).elem, .int .i64 (f 5).birth, .int .i64 (f 6).kind, .int .i64 (f 6).tag, .string (f 6).key, .string (f 6).elem, .int .i64 (f 6).birth, .int .i64 (f 7).kind, .int .i64 (f 7).tag, .string (f 7).key, .string (f 7).elem, .int .i64 (f 7).birth] := rfl
theorem infoC : ∃ i, Tryz.prog.info? 35 = some i := by
  cases h : Tryz.prog.info? 35 with
  | some i => exact ⟨i, rfl⟩
  | none =>
    have : (Tryz.prog.info? 35).isSome = true := by kernel_rfl
    rw [h] at this
    cases this
theorem part0 (f : Nat → GC) (V : World) : (part 35 (#[.int .i64 (f 0).kind, .int .i64 (f 0).tag, .string (f 0).key, .string (f 0).elem, .int .i64 (f 0).birth, .int .i64 (f 1).kind, .int .i64 (f 1).tag, .string (f 1).key, .string (f 1).elem, .int .i64 (f 1).birth, .int .i64 (f 2).kind, .int .i64 (f 2).tag, .string (f 2).key, .string (f 2).elem, .int .i64 (f 2).birth, .int .i64 (f 3).kind, .int .i64 (f 3).tag, .string (f 3).key, .string (f 3).elem, .int .i64 (f 3).birth, .int .i64 (f 4).kind, .int .i64 (f 4).tag, .string (f 4).key, .string (f 4).elem, .int .i64 (f 4).birth, .int .i64 (f 5).kind, .int .i64 (f 5).tag, .string (f 5).key, .string (f 5).elem, .int .i64 (f 5).birth, .int .i64 (f 6).kind, .int .i64 (f 6).tag, .string (f 6).key, .string (f 6).elem, .int .i64 (f 6).birth, .int .i64 (f 7).kind, .int .i64 (f 7).tag, .string (f 7).key, .string (f 7).elem, .int .i64 (f 7).birth]) 0).run Tryz.prog V = .ok (.agg #[.int .i64 (f 0).kind, .int .i64 (f 0).tag, .string (f 0).key, .string (f 0).elem, .int .i64 (f 0).birth]) V := by kernel_rfl
theorem part1 (f : Nat → GC) (V : World) : (part 35 (#[.int .i64 (f 0).kind, .int .i64 (f 0).tag, .string (f 0).key, .string (f 0).elem, .int .i64 (f 0).birth, .int .i64 (f 1).kind, .int .i64 (f 1).tag, .string (f 1).key, .string (f 1).elem, .int .i64 (f 1).birth, .int .i64 (f 2).kind, .int .i64 (f 2).tag, .string (f 2).key, .string (f 2).elem, .int .i64 (f 2).birth, .int .i64 (f 3).kind, .int .i64 (f 3).tag, .string (f 3).key, .string (f 3).elem, .int .i64 (f 3).birth, .int .i64 (f 4).kind, .int .i64 (f 4).tag, .string (f 4).key, .string (f 4).elem, .int .i64 (f 4).birth, .int .i64 (f 5).kind, .int .i64 (f 5).tag, .string (f 5).key, .string (f 5).elem, .int .i64 (f 5).birth, .int .i64 (f 6).kind, .int .i64 (f 6).tag, .string (f 6).key, .string (f 6).elem, .int .i64 (f 6).birth, .int .i64 (f 7).kind, .int .i64 (f 7).tag, .string (f 7).key, .string (f 7).elem, .int .i64 (f 7).birth]) 5).run Tryz.prog V = .ok (.agg #[.int .i64 (f 1).kind, .int .i64 (f 1).tag, .string (f 1).key, .string (f 1).elem, .int .i64 (f 1).birth]) V := by kernel_rfl
theorem part2 (f : Nat → GC) (V : World) : (part 35 (#[.int .i64 (f 0).kind, .int .i64 (f 0).tag, .string (f 0).key, .string (f 0).elem, .int .i64 (f 0).birth, .int .i64 (f 1).kind, .int .i64 (f 1).tag, .string (f 1).key, .string (f 1).elem, .int .i64 (f 1).birth, .int .i64 (f 2).kind, .int .i64 (f 2).tag, .string (f 2).key, .string (f 2).elem, .int .i64 (f 2).birth, .int .i64 (f 3).kind, .int .i64 (f 3).tag, .string (f 3).key, .string (f 3).elem, .int .i64 (f 3).birth, .int .i64 (f 4).kind, .int .i64 (f 4).tag, .string (f 4).key, .string (f 4).elem, .int .i64 (f 4).birth, .int .i64 (f 5).kind, .int .i64 (f 5).tag, .string (f 5).key, .string (f 5).elem, .int .i64 (f 5).birth, .int .i64 (f 6).kind, .int .i64 (f 6).tag, .string (f 6).key, .string (f 6).elem, .int .i64 (f 6).birth, .int .i64 (f 7).kind, .int .i64 (f 7).tag, .string (f 7).key, .string (f 7).elem, .int .i64 (f 7).birth]) 10).run Tryz.prog V = .ok (.agg #[.int .i64 (f 2).kind, .int .i64 (f 2).tag, .string (f 2).key, .string (f 2).elem, .int .i64 (f 2).birth]) V := by kernel_rfl
theorem part3 (f : Nat → GC) (V : World) : (part 35 (#[.int .i64 (f 0).kind, .int .i64 (f 0).tag, .string (f 0).key, .string (f 0).elem, .int .i64 (f 0).birth, .int .i64 (f 1).kind, .int .i64 (f 1).tag, .string (f 1).key, .string (f 1).elem, .int .i64 (f 1).birth, .int .i64 (f 2).kind, .int .i64 (f 2).tag, .string (f 2).key, .string (f 2).elem, .int .i64 (f 2).birth, .int .i64 (f 3).kind, .int .i64 (f 3).tag, .string (f 3).key, .string (f 3).elem, .int .i64 (f 3).birth, .int .i64 (f 4).kind, .int .i64 (f 4).tag, .string (f 4).key, .string (f 4).elem, .int .i64 (f 4).birth, .int .i64 (f 5).kind, .int .i64 (f 5).tag, .string (f 5).key, .string (f 5).elem, .int .i64 (f 5).birth, .int .i64 (f 6).kind, .int .i64 (f 6).tag, .string (f 6).key, .string (f 6).elem, .int .i64 (f 6).birth, .int .i64 (f 7).kind, .int .i64 (f 7).tag, .string (f 7).key, .string (f 7).elem, .int .i64 (f 7).birth]) 15).run Tryz.prog V = .ok (.agg #[.int .i64 (f 3).kind, .int .i64 (f 3).tag, .string (f 3).key, .string (f 3).elem, .int .i64 (f 3).birth]) V := by kernel_rfl
theorem part4 (f : Nat → GC) (V : World) : (part 35 (#[.int .i64 (f 0).kind, .int .i64 (f 0).tag, .string (f 0).key, .string (f 0).elem, .int .i64 (f 0).birth, .int .i64 (f 1).kind, .int .i64 (f 1).tag, .string (f 1).key, .string (f 1).elem, .int .i64 (f 1).birth, .int .i64 (f 2).kind, .int .i64 (f 2).tag, .string (f 2).key, .string (f 2).elem, .int .i64 (f 2).birth, .int .i64 (f 3).kind, .int .i64 (f 3).tag, .string (f 3).key, .string (f 3).elem, .int .i64 (f 3).birth, .int .i64 (f 4).kind, .int .i64 (f 4).tag, .string (f 4).key, .string (f 4).elem, .int .i64 (f 4).birth, .int .i64 (f 5).kind, .int .i64 (f 5).tag, .string (f 5).key, .string (f 5).elem, .int .i64 (f 5).birth, .int .i64 (f 6).kind, .int .i64 (f 6).tag, .string (f 6).key, .string (f 6).elem, .int .i64 (f 6).birth, .int .i64 (f 7).kind, .int .i64 (f 7).tag, .string (f 7).key, .string (f 7).elem, .int .i64 (f 7).birth]) 20).run Tryz.prog V = .ok (.agg #[.int .i64 (f 4).kind, .int .i64 (f 4).tag, .string (f 4).key, .string (f 4).elem, .int .i64 (f 4).birth]) V := by kernel_rfl
theorem part5 (f : Nat → GC) (V : World) : (part 35 (#[.int .i64 (f 0).kind, .int .i64 (f 0).tag, .string (f 0).key, .string (f 0).elem, .int .i64 (f 0).birth, .int .i64 (f 1).kind, .int .i64 (f 1).tag, .string (f 1).key, .string (f 1).elem, .int .i64 (f 1).birth, .int .i64 (f 2).kind, .int .i64 (f 2).tag, .string (f 2).key, .string (f 2).elem, .int .i64 (f 2).birth, .int .i64 (f 3).kind, .int .i64 (f 3).tag, .string (f 3).key, .string (f 3).elem, .int .i64 (f 3).birth, .int .i64 (f 4).kind, .int .i64 (f 4).tag, .string (f 4).key, .string (f 4).elem, .int .i64 (f 4).birth, .int .i64 (f 5).kind, .int .i64 (f 5).tag, .string (f 5).key, .string (f 5).elem, .int .i64 (f 5).birth, .int .i64 (f 6).kind, .int .i64 (f 6).tag, .string (f 6).key, .string (f 6).elem, .int .i64 (f 6).birth, .int .i64 (f 7).kind, .int .i64 (f 7).tag, .string (f 7).key, .string (f 7).elem, .int .i64 (f 7).birth]) 25).run Tryz.prog V = .ok (.agg #[.int .i64 (f 5).kind, .int .i64 (f 5).tag, .string (f 5).key, .string (f 5).elem, .int .i64 (f 5).birth]) V := by kernel_rfl
theorem part6 (f : Nat → GC) (V : World) : (part 35 (#[.int .i64 (f 0).kind, .int .i64 (f 0).tag, .string (f 0).key, .string (f 0).elem, .int .i64 (f 0).birth, .int .i64 (f 1).kind, .int .i64 (f 1).tag, .string (f 1).key, .string (f 1).elem, .int .i64 (f 1).birth, .int .i64 (f 2).kind, .int .i64 (f 2).tag, .string (f 2).key, .string (f 2).elem, .int .i64 (f 2).birth, .int .i64 (f 3).kind, .int .i64 (f 3).tag, .string (f 3).key, .string (f 3).elem, .int .i64 (f 3).birth, .int .i64 (f 4).kind, .int .i64 (f 4).tag, .string (f 4).key, .string (f 4).elem, .int .i64 (f 4).birth, .int .i64 (f 5).kind, .int .i64 (f 5).tag, .string (f 5).key, .string (f 5).elem, .int .i64 (f 5).birth, .int .i64 (f 6).kind, .int .i64 (f 6).tag, .string (f 6).key, .string (f 6).elem, .int .i64 (f 6).birth, .int .i64 (f 7).kind, .int .i64 (f 7).tag, .string (f 7).key, .string (f 7).elem, .int .i64 (f 7).birth]) 30).run Tryz.prog V = .ok (.agg #[.int .i64 (f 6).kind, .int .i64 (f 6).tag, .string (f 6).key, .string (f 6).elem, .int .i64 (f 6).birth]) V := by kernel_rfl
theorem part7 (f : Nat → GC) (V : World) : (part 35 (#[.int .i64 (f 0).kind, .int .i64 (f 0).tag, .string (f 0).key, .string (f 0).elem, .int .i64 (f 0).birth, .int .i64 (f 1).kind, .int .i64 (f 1).tag, .string (f 1).key, .string (f 1).elem, .int .i64 (f 1).birth, .int .i64 (f 2).kind, .int .i64 (f 2).tag, .string (f 2).key, .string (f 2).elem, .int .i64 (f 2).birth, .int .i64 (f 3).kind, .int .i64 (f 3).tag, .string (f 3).key, .string (f 3).elem, .int .i64 (f 3).birth, .int .i64 (f 4).kind, .int .i64 (f 4).tag, .string (f 4).key, .string (f 4).elem, .int .i64 (f 4).birth, .int .i64 (f 5).kind, .int .i64 (f 5).tag, .string (f 5).key, .string (f 5).elem, .int .i64 (f 5).birth, .int .i64 (f 6).kind, .int .i64 (f 6).tag, .string (f 6).key, .string (f 6).elem, .int .i64 (f 6).birth, .int .i64 (f 7).kind, .int .i64 (f 7).tag, .string (f 7).key, .string (f 7).elem, .int .i64 (f 7).birth]) 35).run Tryz.prog V = .ok (.agg #[.int .i64 (f 7).kind, .int .i64 (f 7).tag, .string (f 7).key, .string (f 7).elem, .int .i64 (f 7).birth]) V := by kernel_rfl

theorem eqC (k t b : Int) (s e : ByteArray) (V : World) : (Op.equalIn 9999 35 (.agg #[.int .i64 k, .int .i64 t, .string s, .string e, .int .i64 b]) (.agg #[.int .i64 k, .int .i64 t, .string s, .string e, .int .i64 b])).run Tryz.prog V = .ok true V := by
  go_simp
set_option maxHeartbeats 1000000 in
set_option maxRecDepth 100000 in
theorem eqG (f : Nat → GC) (V : World) : (Op.equalIn 10000 36 (.agg (cs8 f).toArray) (.agg (cs8 f).toArray)).run Tryz.prog V = .ok true V := by
  obtain ⟨i, hi⟩ := infoC
  have hc : Tryz.prog.cellsOf 35 = 5 := by kernel_rfl
  rw [show 10000 = 9999 + 1 from rfl, run_equalIn_array V 9999 _ _ Tryz.underlying36 hi, cs8_out, hc, show List.range 8 = [0, 1, 2, 3, 4, 5, 6, 7] from rfl]
  simp only [Op.eqItems, Sem.run_bind, Nat.zero_mul, Nat.reduceMul, part0, part1, part2, part3, part4, part5, part6, part7, Result.andThen_ok, eqC, Bool.not_true, Bool.false_eq_true, if_false, Sem.run_pure]
end Go.Proofs.YtdnkjbbpfhegdaaGreat
/-
  The law's take: a slot is erased.
-/
namespace Go.Proofs.YtdnkjbbpfhegdaaGreat
open Go.RowKit Go.Shelf Ly Ct
set_option linter.unusedVariables false

set_option maxHeartbeats 2000000 in
set_option maxRecDepth 100000 in
theorem take_erase {w : World} {p : Nat} {F : Nat → Prop} {d : AD} (hA : Arena w p F d) (hF : d.Fine) (hFl : ∀ k, F k → k < w.heap.size) (l : Lay) (off : Nat) (en : Int) (c : Nat → GC) (hG : GroupAt d l off c) (ho : fitsI (off : Int)) (hn : fitsI l.g)
    (sk si st sb : Int) (sx : ByteArray) (hk : Mod6 sk 5 2) (i : Nat) (hi : Mod6 si 8 (i : Int)) (hi8 : i < 8) :
    Calls Tryz.prog 8 #[.agg #[.pointer (some ⟨p, 0, none⟩), .int .i64 l.k, .int .i64 l.e, .int .i64 l.a, .int .i64 l.b, .int .i64 l.c, .int .i64 l.eo, .int .i64 l.bo, .int .i64 l.s, .int .i64 l.g, .int .i64 (off : Int), .int .i64 en], .agg #[.int .i64 sk, .int .i64 si, .int .i64 st, .int .i64 sb, .string sx]] w fun e w' => e = .returned (.bool true) ∧ Turned w w' p F (eraseG d l off i false).2 := by
  obtain ⟨he1, he2, he3⟩ := hG.erase hi8 false
  have hAt := fun V => at_any p l (off : Int) V
  have hEr : ∀ V, Keeps w V (fun _ => False) → Calls Tryz.prog 25 #[.agg #[.pointer (some ⟨p, 0, none⟩), .int .i64 l.k, .int .i64 l.e, .int .i64 l.a, .int .i64 l.b, .int .i64 l.c, .int .i64 l.eo, .int .i64 l.bo, .int .i64 l.s, .int .i64 l.g, .int .i64 (off : Int)], .int .i64 (i : Int), .bool false] V fun e w' => ErrPost V p F 0 (eraseG d l off i false).2 e w' := fun V k => by
    have := gerase_any (hA.keeps k (fun _ _ _ e => e)) hF (fun j hj => Nat.lt_of_lt_of_le (hFl j hj) k.size) l (off : Int) (i : Int) false ho hn
    rw [he1] at this
    exact this
  have hCe : ∀ V {G : Nat → Prop}, Arena V p G (eraseG d l off i false).2 → Calls Tryz.prog 13 #[.agg #[.pointer (some ⟨p, 0, none⟩), .int .i64 l.k, .int .i64 l.e, .int .i64 l.a, .int .i64 l.b, .int .i64 l.c, .int .i64 l.eo, .int .i64 l.bo, .int .i64 l.s, .int .i64 l.g, .int .i64 (off : Int)], .int .i64 (i : Int)] V fun e w' => CellPost V GC.zero 0 e w' := fun V G hV => by
    have := cell_any hV (he3.fine hF) l (off : Int) (i : Int) ho hn
    rw [he2.cell hi8] at this
    have e : updC c i (if (false : Bool) = true then GC.gone else GC.zero) i = GC.zero := by simp [updC]
    rw [e] at this
    exact this
  generalize (eraseG d l off i false).2 = d1 at *
  clear he1 he2 he3 hG hA
  go_enter Tryz.func8, Tryz.ntmps8
  go_wp2_with fail
  refine alloc2 (P := fun W => Calls _ _ _ W _) fun W0 hb hr hz K0 => ?_
  refine (hAt _).mono ?_
  rintro r w1 ⟨rfl, k1⟩
  have K1 : Keeps w w1 (fun _ => False) := K0.trans k1 (fun _ _ e => e)
  obtain ⟨s0, s1, s2, s3, s4, -⟩ := five_cells (k1.blk hr)
  have hlt1 : w.heap.size + 1 < w1.heap.size := heap_lt (k1.blk hr)
  go_wp2_with fail
  refine (mod6_is hi _).mono ?_
  rintro r w2 ⟨rfl, hw2⟩
  have C2 : C11 w1.heap.size p l (off : Int) w2 := by rw [hw2]; exact c11_of (heap_alloc_new _ _)
  have K2 : Keeps w1 w2 (fun _ => False) := by rw [hw2]; exact (Keeps.refl _ _).alloc _
  have hz2 : w1.heap.size < w2.heap.size := by rw [hw2]; simp
  obtain ⟨t0, t1, t2, t3, t4, -⟩ := five_cells (K2.blk (k1.blk hr))
  clear s0 s1 s2 s3 s4 hw2
  have C2' := C2
  obtain ⟨c0, c1, c2, c3, c4, c5, c6, c7, c8, c9, c10⟩ := C2'
  go_wp2_with fail
  refine (mod6_is hk _).mono ?_
  rintro r w3 ⟨rfl, rfl⟩
  go_wp2_with fail
  have K3 : Keeps w w3 (fun _ => False) := K1.trans K2 (fun _ _ e => e)
  refine (hEr _ K3).mono ?_
  rintro r w4 ⟨rfl, T4⟩
  have hnB : ¬ F w1.heap.size := fun q => by
    have := hFl _ q
    have := K1.size
    omega
  have C4 := c11_keeps T4.2 hnB C2
  clear c0 c1 c2 c3 c4 c5 c6 c7 c8 c9 c10
  obtain ⟨c0, c1, c2, c3, c4, c5, c6, c7, c8, c9, c10⟩ := C4
  have A4 := T4.1
  go_wp2_with fail
  refine (hCe _ A4).mono ?_
  rintro r w5 ⟨rfl, k5⟩
  have T5 := hide (Turned.pre K3 (T4.post k5))
  clear T4 A4
  unfold GC.val GC.zero
  go_wp2_with fail
  go_ret
  exact ⟨rfl, T5.out.post ((Keeps.refl _ _).alloc _)⟩

set_option maxHeartbeats 2000000 in
set_option maxRecDepth 100000 in
theorem take_mark {w : World} {p : Nat} {F : Nat → Prop} {d : AD} (hA : Arena w p F d) (hF : d.Fine) (hFl : ∀ k, F k → k < w.heap.size) (l : Lay) (off : Nat) (en : Int) (c : Nat → GC) (hG : GroupAt d l off c) (ho : fitsI (off : Int)) (hn : fitsI l.g)
    (sk si st sb : Int) (sx : ByteArray) (hk : Mod6 sk 5 3) (i : Nat) (hi : Mod6 si 8 (i : Int)) (hi8 : i < 8) :
    Calls Tryz.prog 8 #[.agg #[.pointer (some ⟨p, 0, none⟩), .int .i64 l.k, .int .i64 l.e, .int .i64 l.a, .int .i64 l.b, .int .i64 l.c, .int .i64 l.eo, .int .i64 l.bo, .int .i64 l.s, .int .i64 l.g, .int .i64 (off : Int), .int .i64 en], .agg #[.int .i64 sk, .int .i64 si, .int .i64 st, .int .i64 sb, .string sx]] w fun e w' => e = .returned (.bool true) ∧ Turned w w' p F (eraseG d l off i true).2 := by
  obtain ⟨he1, he2, he3⟩ := hG.erase hi8 true
  have hAt := fun V => at_any p l (off : Int) V
  have hEr : ∀ V, Keeps w V (fun _ => False) → Calls Tryz.prog 25 #[.agg #[.pointer (some ⟨p, 0, none⟩), .int .i64 l.k, .int .i64 l.e, .int .i64 l.a, .int .i64 l.b, .int .i64 l.c, .int .i64 l.eo, .int .i64 l.bo, .int .i64 l.s, .int .i64 l.g, .int .i64 (off : Int)], .int .i64 (i : Int), .bool true] V fun e w' => ErrPost V p F 0 (eraseG d l off i true).2 e w' := fun V k => by
    have := gerase_any (hA.keeps k (fun _ _ _ e => e)) hF (fun j hj => Nat.lt_of_lt_of_le (hFl j hj) k.size) l (off : Int) (i : Int) true ho hn
    rw [he1] at this
    exact this
  have hCe : ∀ V {G : Nat → Prop}, Arena V p G (eraseG d l off i true).2 → Calls Tryz.prog 13 #[.agg #[.pointer (some ⟨p, 0, none⟩), .int .i64 l.k, .int .i64 l.e, .int .i64 l.a, .int .i64 l.b, .int .i64 l.c, .int .i64 l.eo, .int .i64 l.bo, .int .i64 l.s, .int .i64 l.g, .int .i64 (off : Int)], .int .i64 (i : Int)] V fun e w' => CellPost V GC.gone 0 e w' := fun V G hV => by
    have := cell_any hV (he3.fine hF) l (off : Int) (i : Int) ho hn
    rw [he2.cell hi8] at this
    have e : updC c i (if (true : Bool) = true then GC.gone else GC.zero) i = GC.gone := by simp [updC]
    rw [e] at this
    exact this
  generalize (eraseG d l off i true).2 = d1 at *
  clear he1 he2 he3 hG hA
  go_enter Tryz.func8, Tryz.ntmps8
  go_wp2_with fail
  refine alloc2 (P := fun W => Calls _ _ _ W _) fun W0 hb hr hz K0 => ?_
  refine (hAt _).mono ?_
  rintro r w1 ⟨rfl, k1⟩
  have K1 : Keeps w w1 (fun _ => False) := K0.trans k1 (fun _ _ e => e)
  obtain ⟨s0, s1, s2, s3, s4, -⟩ := five_cells (k1.blk hr)
  have hlt1 : w.heap.size + 1 < w1.heap.size := heap_lt (k1.blk hr)
  go_wp2_with fail
  refine (mod6_is hi _).mono ?_
  rintro r w2 ⟨rfl, hw2⟩
  have C2 : C11 w1.heap.size p l (off : Int) w2 := by rw [hw2]; exact c11_of (heap_alloc_new _ _)
  have K2 : Keeps w1 w2 (fun _ => False) := by rw [hw2]; exact (Keeps.refl _ _).alloc _
  have hz2 : w1.heap.size < w2.heap.size := by rw [hw2]; simp
  obtain ⟨t0, t1, t2, t3, t4, -⟩ := five_cells (K2.blk (k1.blk hr))
  clear s0 s1 s2 s3 s4 hw2
  have C2' := C2
  obtain ⟨c0, c1, c2, c3, c4, c5, c6, c7, c8, c9, c10⟩ := C2'
  go_wp2_with fail
  refine (mod6_is hk _).mono ?_
  rintro r w3 ⟨rfl, rfl⟩
  go_wp2_with fail
  have K3 : Keeps w w3 (fun _ => False) := K1.trans K2 (fun _ _ e => e)
  refine (hEr _ K3).mono ?_
  rintro r w4 ⟨rfl, T4⟩
  have hnB : ¬ F w1.heap.size := fun q => by
    have := hFl _ q
    have := K1.size
    omega
  have C4 := c11_keeps T4.2 hnB C2
  clear c0 c1 c2 c3 c4 c5 c6 c7 c8 c9 c10
  obtain ⟨c0, c1, c2, c3, c4, c5, c6, c7, c8, c9, c10⟩ := C4
  have A4 := T4.1
  go_wp2_with fail
  refine (hCe _ A4).mono ?_
  rintro r w5 ⟨rfl, k5⟩
  have T5 := hide (Turned.pre K3 (T4.post k5))
  clear T4 A4
  unfold GC.val GC.gone
  go_wp2_with fail
  go_ret
  exact ⟨rfl, T5.out.post ((Keeps.refl _ _).alloc _)⟩
end Go.Proofs.YtdnkjbbpfhegdaaGreat
