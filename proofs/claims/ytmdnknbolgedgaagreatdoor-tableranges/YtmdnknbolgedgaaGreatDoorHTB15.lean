/-
  What the law's shape makes: two rows of counts, a list of cells.
-/
import Derived.Test.YtmdnknbolgedgaaGreatDoorUn20
import Derived.Test.YtmdnknbolgedgaaGreatDoorHTM7
namespace Go.Proofs.YtmdnknbolgedgaaGreatDoor
open Go.RowKit Go.Shelf Ly Ct
set_option linter.unusedVariables false

/-- A row of G numbers in block B. -/
def RowN (w : World) (B G : Nat) (f : Nat → Int) : Prop := ∃ cs : Array Value, w.heap[B]? = some (.cells cs 3) ∧ cs.size = G ∧ ∀ g, g < G → cs[g]? = some (.int .i64 (f g))
section
variable {w w' : World} {B G : Nat} {f : Nat → Int}
theorem RowN.cell (h : RowN w B G f) {g : Nat} (hg : g < G) : w.cell? ⟨B, g, none⟩ = some (.int .i64 (f g)) ∧ w.frozen? ⟨B, g, none⟩ = false := by
  obtain ⟨cs, h1, h2, h3⟩ := h
  constructor
  · simp only [World.cell?, h1]
    simpa using h3 g hg
  · simp [World.frozen?, h1]
theorem RowN.set (h : RowN w B G f) {g : Nat} (hg : g < G) (x : Int) : RowN (w.setCell ⟨B, g, none⟩ (.int .i64 x)) B G (fun q => if q = g then x else f q) := by
  obtain ⟨cs, h1, h2, h3⟩ := h
  refine ⟨_, set_one' h1 g (.int .i64 x) (by omega), by simp [h2], fun q hq => ?_⟩
  show _ = some (Value.int .i64 (if q = g then x else f q))
  rw [Array.getElem?_set]
  by_cases e : g = q
  · rw [if_pos e, if_pos e.symm]
  · rw [if_neg e, if_neg (fun z => e z.symm)]
    exact h3 q hq
theorem RowN.keep (h : RowN w B G f) (e : w'.heap[B]? = w.heap[B]?) : RowN w' B G f := by
  obtain ⟨cs, h1, h2⟩ := h
  exact ⟨cs, e.trans h1, h2⟩
theorem RowN.lt (h : RowN w B G f) : B < w.heap.size := by
  obtain ⟨cs, h1, h2⟩ := h
  exact heap_lt h1
theorem rowN_made {w : World} {B G : Nat} (h : w.heap[B]? = some (.cells (offRow G []) 3)) : RowN w B G (fun _ => 0) := ⟨_, h, by simp [offRow], fun g hg => by simp [offRow, hg, cellI]⟩
end
def cell5 (x : GC) : List Value := [.int .i64 x.kind, .int .i64 x.tag, .string x.key, .string x.elem, .int .i64 x.birth]
def cellL (c : Nat → GC) : Nat → List Value
  | 0 => []
  | n + 1 => cellL c n ++ cell5 (c n)
theorem cellL_length (c : Nat → GC) : ∀ n, (cellL c n).length = n * 5
  | 0 => rfl
  | n + 1 => by
    simp only [cellL, List.length_append, cellL_length c n]
    simp [cell5]
    omega
theorem cellL_key (c : Nat → GC) : ∀ n i, i < n → (cellL c n)[i * 5 + 2]? = some (.string (c i).key)
  | 0, i, h => absurd h (Nat.not_lt_zero _)
  | n + 1, i, h => by
    simp only [cellL]
    by_cases e : i < n
    · rw [List.getElem?_append_left (by rw [cellL_length]; omega)]
      exact cellL_key c n i e
    · obtain rfl : i = n := by omega
      rw [List.getElem?_append_right (by rw [cellL_length]; omega), cellL_length, Nat.add_sub_cancel_left]
      rfl
theorem info_cell : (Tryz.prog.info? 83).map (fun i => (i.zero, i.size, i.bytes)) = some (some (.agg #[.int .i64 0, .int .i64 0, .string ByteArray.empty, .string ByteArray.empty, .int .i64 0]), 5, 56) := by kernel_rfl
/-- The rows of counts and the list of the first n cells. -/
structure ShA (w0 V : World) (Be Bd G : Nat) (ev dv : Nat → Int) (va : Value) (n : Nat) (c : Nat → GC) : Prop where
  e : RowN V Be G ev
  d : RowN V Bd G dv
  a : V.ownsRow w0.heap.size 83 5 va n (cellL c n)
  k : Keeps w0 V (fun _ => False)
  be : w0.heap.size ≤ Be
  bd : w0.heap.size ≤ Bd
  ne : Be ≠ Bd
section
variable {w0 V V' : World} {Be Bd G : Nat} {ev dv : Nat → Int} {va : Value} {n : Nat} {c : Nat → GC}
theorem ShA.apart (h : ShA w0 V Be Bd G ev dv va n c) : va.ownBlock ≠ some Be ∧ va.ownBlock ≠ some Bd := by
  have key : ∀ B, (∃ cs, V.heap[B]? = some (.cells cs 3)) → va.ownBlock ≠ some B := fun B hB e => by
    obtain ⟨cs, hB⟩ := hB
    rcases h.a.2 with ⟨rfl, -⟩ | ⟨g, cap, cur, rfl, -, hg, -⟩
    · cases e
    · have eg : g = B := by simpa [Value.ownBlock] using e
      subst eg
      rw [hB] at hg
      injection Option.some.inj hg with _ h2 _
      exact absurd h2 (by decide)
  obtain ⟨c1, q1, -⟩ := h.e
  obtain ⟨c2, q2, -⟩ := h.d
  exact ⟨key Be ⟨c1, q1⟩, key Bd ⟨c2, q2⟩⟩
theorem ShA.stay (h : ShA w0 V Be Bd G ev dv va n c) (k : Keeps V V' (fun _ => False)) : ShA w0 V' Be Bd G ev dv va n c :=
  ⟨h.e.keep (k.block _ h.e.lt id), h.d.keep (k.block _ h.d.lt id), row_kept8 h.a (fun q hq => k.block q (h.a.lt q hq).2 id), h.k.trans k (fun _ _ e => e), h.be, h.bd, h.ne⟩
theorem ShA.setE (h : ShA w0 V Be Bd G ev dv va n c) {g : Nat} (hg : g < G) (x : Int) : ShA w0 (V.setCell ⟨Be, g, none⟩ (.int .i64 x)) Be Bd G (fun q => if q = g then x else ev q) dv va n c := by
  have ks : Keeps V (V.setCell ⟨Be, g, none⟩ (.int .i64 x)) (fun i => i = Be) := Keeps.setCell (S := fun i => i = Be) (Keeps.refl V _) ⟨Be, g, none⟩ (fun _ => rfl) _
  refine ⟨h.e.set hg x, h.d.keep (ks.block _ h.d.lt (fun e => h.ne e.symm)), row_kept8 h.a (fun q hq => ks.block q (h.a.lt q hq).2 (fun e => h.apart.1 (by rw [← e]; exact hq))), h.k.trans ks (fun i hi e => by have := h.be; omega), h.be, h.bd, h.ne⟩
theorem ShA.setD (h : ShA w0 V Be Bd G ev dv va n c) {g : Nat} (hg : g < G) (x : Int) : ShA w0 (V.setCell ⟨Bd, g, none⟩ (.int .i64 x)) Be Bd G ev (fun q => if q = g then x else dv q) va n c := by
  have ks : Keeps V (V.setCell ⟨Bd, g, none⟩ (.int .i64 x)) (fun i => i = Bd) := Keeps.setCell (S := fun i => i = Bd) (Keeps.refl V _) ⟨Bd, g, none⟩ (fun _ => rfl) _
  refine ⟨h.e.keep (ks.block _ h.e.lt (fun e => h.ne e)), h.d.set hg x, row_kept8 h.a (fun q hq => ks.block q (h.a.lt q hq).2 (fun e => h.apart.2 (by rw [← e]; exact hq))), h.k.trans ks (fun i hi e => by have := h.bd; omega), h.be, h.bd, h.ne⟩
theorem ShA.more (h : ShA w0 V Be Bd G ev dv va n c) (hn : n ≤ 1000000) :
    ∃ g cap V2, (∀ ty, (Builtin.append_ #[120, 120] ty #[va, .slice (some ⟨V.heap.size, 0, none⟩) 1 1]).run Tryz.prog (V.alloc (.cells #[.int .i64 (c n).kind, .int .i64 (c n).tag, .string (c n).key, .string (c n).elem, .int .i64 (c n).birth] 83)) = .ok (.slice (some ⟨g, 0, none⟩) (n + 1) cap) V2) ∧ ShA w0 V2 Be Bd G ev dv (.slice (some ⟨g, 0, none⟩) (n + 1) cap) (n + 1) c := by
  obtain ⟨i, h1, h2, h3, h4⟩ := info_parts info_cell
  have hsz := h.k.size
  have hrow := h.a.alloc (.cells #[.int .i64 (c n).kind, .int .i64 (c n).tag, .string (c n).key, .string (c n).elem, .int .i64 (c n).birth] 83)
  have hnew := heap_alloc_new V (.cells #[.int .i64 (c n).kind, .int .i64 (c n).tag, .string (c n).key, .string (c n).elem, .int .i64 (c n).birth] 83)
  obtain ⟨f0, f1, f2, f3, f4, -⟩ := five_cells hnew
  obtain ⟨g, cap, V2, hr, hown, hgr, hloc, hlt⟩ := run_append_lies (P := Tryz.prog) (V.alloc (.cells #[.int .i64 (c n).kind, .int .i64 (c n).tag, .string (c n).key, .string (c n).elem, .int .i64 (c n).birth] 83)) 120 0 w0.heap.size 83 i _ 5 56 Tryz.underlying120 h1 h2 h3 h4 rfl (by decide) va n (cellL c n) hrow ⟨V.heap.size, 0, none⟩ 1 1 (cell5 (c n)) rfl
    (fun j u hu => by
      unfold cell5 at hu
      rw [addr_add, Nat.zero_add]
      match j, hu with
      | 0, hu => simp at hu; subst hu; exact f0
      | 1, hu => simp at hu; subst hu; exact f1
      | 2, hu => simp at hu; subst hu; exact f2
      | 3, hu => simp at hu; subst hu; exact f3
      | 4, hu => simp at hu; subst hu; exact f4
      | j + 5, hu => simp at hu) (fun u hu => by
      unfold cell5 at hu
      simp at hu
      rcases hu with rfl | rfl | rfl | rfl | rfl <;> rfl) (by omega) (by simp only [maxLen]; omega) (by omega) (by simp; omega) (V.heap.size + 1) (by simp)
  have k1 : Keeps V V2 (fun k => va.ownBlock = some k) := ((Keeps.refl V _).alloc _).trans (Keeps.ofGrown hgr) (fun _ _ e => e)
  exact ⟨g, cap, V2, fun ty => hr, ⟨h.e.keep (k1.block _ h.e.lt h.apart.1), h.d.keep (k1.block _ h.d.lt h.apart.2), hown, h.k.trans k1 (fun q hq e => by have := (h.a.lt q e).1; omega), h.be, h.bd, h.ne⟩⟩
end
end Go.Proofs.YtmdnknbolgedgaaGreatDoor
