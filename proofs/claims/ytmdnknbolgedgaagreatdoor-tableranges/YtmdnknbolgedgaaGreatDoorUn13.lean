import Derived.Laws.OwnMore
import Derived.Deep.AppendLies
import Derived.Maps.AppendAt
import Derived.Test.YtmdnknbolgedgaaGreatDoorRows
import Derived.WalkKit
import Derived.Outline
import Derived.Deep.RegionHeld3
import Derived.Test.YtmdnknbolgedgaaGreatDoorUn12
/-
  The law's list beside a table's cells: an elem replaced, a key deleted.
-/
namespace Go.Proofs.YtmdnknbolgedgaaGreatDoor
open Go.RowKit Go.Shelf Ly Ct
set_option linter.unusedVariables false

section
variable {c : Nat → GC} {G k : Nat} {f : Nat → Int} {hs : ByteArray → Nat} {L : List LifeD} {ad : Nat}
theorem LTie.keys (h : LTie c G f hs L ad) {i j : Nat} (hi : i < L.length) (hj : j < L.length) (e : L[i].key = L[j].key) : i = j := by
  have hp := List.pairwise_iff_getElem.1 h.once
  rcases Nat.lt_trichotomy i j with q | q | q
  · exact absurd e (hp i j hi hj q)
  · exact q
  · exact absurd e.symm (hp j i hj hi q)
theorem LTie.slots (h : LTie c G f hs L ad) {i j : Nat} (hi : i < L.length) (hj : j < L.length) (e : L[i].slot.toNat = L[j].slot.toNat) : i = j := by
  have h1 := (h.life _ (List.getElem_mem hi)).2.2.1
  have h2 := (h.life _ (List.getElem_mem hj)).2.2.1
  rw [e, h2] at h1
  exact h.keys hi hj (congrArg GC.key h1).symm
/-- The elem of a life is replaced. -/
theorem LTie.old (h : LTie c G f hs L ad) {i : Nat} (hi : i < L.length) (e : ByteArray) : LTie (updN c L[i].slot.toNat { c L[i].slot.toNat with elem := e }) G f hs (L.set i { L[i] with elem := e }) ad := by
  obtain ⟨p1, p2, p3, p4⟩ := h.life _ (List.getElem_mem hi)
  have hlen : (L.set i { L[i] with elem := e }).length = L.length := List.length_set
  have hU := cntC_upd notEmp c L[i].slot.toNat { c L[i].slot.toNat with elem := e } (8 * G) (by omega)
  have hx : notEmp { c L[i].slot.toNat with elem := e } = notEmp (c L[i].slot.toNat) := rfl
  rw [hx] at hU
  have hcnt : cntC notEmp (updN c L[i].slot.toNat { c L[i].slot.toNat with elem := e }) (8 * G) = cntC notEmp c (8 * G) := by omega
  refine ⟨h.inv.elem e, fun x hx => ?_, fun s hs8 h2 => ?_, ?_, ?_, ?_, h.pos, by rw [hcnt]; exact h.add⟩
  · obtain ⟨j, hj, rfl⟩ := List.getElem_of_mem hx
    rw [hlen] at hj
    by_cases q : i = j
    · subst q
      rw [List.getElem_set_self]
      refine ⟨p1, p2, ?_, p4⟩
      show updN c L[i].slot.toNat { c L[i].slot.toNat with elem := e } L[i].slot.toNat = GC.full _ L[i].key e L[i].birth
      have : updN c L[i].slot.toNat { c L[i].slot.toNat with elem := e } L[i].slot.toNat = { c L[i].slot.toNat with elem := e } := if_pos rfl
      rw [this, p3]
      rfl
    · rw [List.getElem_set_ne q]
      obtain ⟨r1, r2, r3, r4⟩ := h.life _ (List.getElem_mem hj)
      refine ⟨r1, r2, ?_, r4⟩
      have : updN c L[i].slot.toNat { c L[i].slot.toNat with elem := e } L[j].slot.toNat = c L[j].slot.toNat := if_neg (fun z => q (h.slots hi hj z.symm))
      rw [this]
      exact r3
  · have hk : (updN c L[i].slot.toNat { c L[i].slot.toNat with elem := e } s).kind = (c s).kind := by
      unfold updN
      split
      · rename_i q
        rw [q]
      · rfl
    rw [hk] at h2
    obtain ⟨x, hx1, hx2⟩ := h.all s hs8 h2
    obtain ⟨j, hj, rfl⟩ := List.getElem_of_mem hx1
    refine ⟨(L.set i { L[i] with elem := e })[j]'(by rw [hlen]; exact hj), List.getElem_mem _, ?_⟩
    by_cases q : i = j
    · subst q
      rw [List.getElem_set_self]
      exact hx2
    · rw [List.getElem_set_ne q]
      exact hx2
  · rw [List.pairwise_iff_getElem]
    intro a b ha hb hab
    rw [hlen] at ha hb
    have hp := List.pairwise_iff_getElem.1 h.once a b ha hb hab
    have hka : ∀ (j : Nat) (hj : j < L.length), ((L.set i { L[i] with elem := e })[j]'(by rw [hlen]; exact hj)).key = L[j].key := fun j hj => by
      by_cases q : i = j
      · subst q
        rw [List.getElem_set_self]
      · rw [List.getElem_set_ne q]
    rw [hka a ha, hka b hb]
    exact hp
  · rw [hlen]
    exact h.used
  · rw [hcnt]
    exact h.left
/-- A life ends. -/
theorem LTie.gone (h : LTie c G f hs L ad) {i : Nat} (hi : i < L.length) {f' : Nat → Int} (h3 : f' 3 = f 3 - 1) (h5 : f' 5 = if empG c (L[i].slot.toNat / 8) then f 5 + 1 else f 5) :
    LTie (updN c L[i].slot.toNat (if empG c (L[i].slot.toNat / 8) then GC.zero else GC.gone)) G f' hs (L.take i ++ L.drop (i + 1)) ad := by
  obtain ⟨p1, p2, p3, p4⟩ := h.life _ (List.getElem_mem hi)
  have hv : (c L[i].slot.toNat).kind = 2 := by rw [p3]; rfl
  have hU := cntC_upd notEmp c L[i].slot.toNat (if empG c (L[i].slot.toNat / 8) then GC.zero else GC.gone) (8 * G) (by omega)
  have hc : notEmp (c L[i].slot.toNat) = true := decide_eq_true (by rw [hv]; decide)
  rw [hc, if_pos rfl] at hU
  have hxv : notEmp (if empG c (L[i].slot.toNat / 8) then GC.zero else GC.gone) = !(empG c (L[i].slot.toNat / 8)) := by cases empG c (L[i].slot.toNat / 8) <;> rfl
  rw [hxv] at hU
  have hmem : ∀ x, x ∈ L.take i ++ L.drop (i + 1) ↔ ∃ (j : Nat) (hj : j < L.length), j ≠ i ∧ L[j] = x := fun x => by
    rw [List.mem_append, List.mem_take_iff_getElem, List.mem_drop_iff_getElem]
    constructor
    · rintro (⟨j, hj, q⟩ | ⟨j, hj, q⟩)
      · exact ⟨j, by omega, by omega, q⟩
      · exact ⟨i + 1 + j, by omega, by omega, by rw [← q]⟩
    · rintro ⟨j, hj, hne, q⟩
      rcases Nat.lt_or_gt_of_ne hne with z | z
      · exact Or.inl ⟨j, by omega, q⟩
      · refine Or.inr ⟨j - (i + 1), by omega, ?_⟩
        have e : i + 1 + (j - (i + 1)) = j := by omega
        simp only [e]
        exact q
  refine ⟨h.inv.gone (by omega) hv, fun x hx => ?_, fun s hs8 h2 => ?_, ?_, ?_, ?_, ?_, ?_⟩
  · obtain ⟨j, hj, hne, rfl⟩ := (hmem x).1 hx
    obtain ⟨r1, r2, r3, r4⟩ := h.life _ (List.getElem_mem hj)
    refine ⟨r1, r2, ?_, r4⟩
    have : updN c L[i].slot.toNat (if empG c (L[i].slot.toNat / 8) then GC.zero else GC.gone) L[j].slot.toNat = c L[j].slot.toNat := if_neg (fun z => hne (h.slots hj hi z))
    rw [this]
    exact r3
  · have hsv : s ≠ L[i].slot.toNat := fun q => by
      have : updN c L[i].slot.toNat (if empG c (L[i].slot.toNat / 8) then GC.zero else GC.gone) s = (if empG c (L[i].slot.toNat / 8) then GC.zero else GC.gone) := if_pos q
      rw [this] at h2
      cases he : empG c (L[i].slot.toNat / 8)
      · rw [he] at h2; exact absurd h2 (by decide)
      · rw [he] at h2; exact absurd h2 (by decide)
    have : updN c L[i].slot.toNat (if empG c (L[i].slot.toNat / 8) then GC.zero else GC.gone) s = c s := if_neg hsv
    rw [this] at h2
    obtain ⟨x, hx1, hx2⟩ := h.all s hs8 h2
    obtain ⟨j, hj, rfl⟩ := List.getElem_of_mem hx1
    exact ⟨_, (hmem _).2 ⟨j, hj, fun q => by subst q; omega, rfl⟩, hx2⟩
  · have hsub : (L.take i ++ L.drop (i + 1)).Sublist L := by
      rw [← List.eraseIdx_eq_take_drop_succ]
      exact List.eraseIdx_sublist L i
    exact h.once.sublist hsub
  · rw [h3, h.used, List.length_append, List.length_take, List.length_drop]
    omega
  · have hl := h.left
    cases he : empG c (L[i].slot.toNat / 8)
    · rw [he] at h5 hU
      rw [h5, if_neg (by decide)]
      simp at hU
      simp
      omega
    · rw [he] at h5 hU
      rw [h5, if_pos rfl]
      simp at hU
      simp
      omega
  · have := h.pos
    rw [h5]
    split <;> omega
  · have := h.add
    have : (if (!(empG c (L[i].slot.toNat / 8))) = true then 1 else 0) ≤ 1 := by split <;> omega
    omega
end
end Go.Proofs.YtmdnknbolgedgaaGreatDoor
/-
  The law's Bench in the memory: its table, its list of lives.
-/
namespace Go.Proofs.YtmdnknbolgedgaaGreatDoor
open Go.RowKit Go.Shelf Ly Ct
set_option linter.unusedVariables false

def lifeC (L : List LifeD) : List Value := (L.map (fun x => [Value.string x.key, .string x.elem, .int .u64 (x.hash : Int), .int .i64 x.birth, .int .i64 x.slot])).flatten
theorem lifeC_append (L M : List LifeD) : lifeC (L ++ M) = lifeC L ++ lifeC M := by simp [lifeC]
theorem lifeC_one (x : LifeD) : lifeC [x] = [.string x.key, .string x.elem, .int .u64 (x.hash : Int), .int .i64 x.birth, .int .i64 x.slot] := by simp [lifeC]
theorem lifeC_cons (x : LifeD) (L : List LifeD) : lifeC (x :: L) = [.string x.key, .string x.elem, .int .u64 (x.hash : Int), .int .i64 x.birth, .int .i64 x.slot] ++ lifeC L := by simp [lifeC]
theorem lifeC_length (L : List LifeD) : (lifeC L).length = L.length * 5 := by
  induction L with
  | nil => rfl
  | cons x r ih =>
    rw [lifeC_cons, List.length_append, ih]
    simp
    omega
theorem lifeC_get : ∀ (L : List LifeD) (i : Nat) (h : i < L.length), (lifeC L)[i * 5]? = some (.string L[i].key) ∧ (lifeC L)[i * 5 + 1]? = some (.string L[i].elem) ∧ (lifeC L)[i * 5 + 2]? = some (.int .u64 (L[i].hash : Int)) ∧ (lifeC L)[i * 5 + 3]? = some (.int .i64 L[i].birth) ∧ (lifeC L)[i * 5 + 4]? = some (.int .i64 L[i].slot)
  | [], i, h => by simp at h
  | y :: r, 0, h => by simp [lifeC]
  | y :: r, i + 1, h => by
    have ih := lifeC_get r i (by simpa using h)
    have e1 : (i + 1) * 5 = 5 + i * 5 := by omega
    rw [lifeC_cons, e1]
    have hr : ∀ q, ([Value.string y.key, .string y.elem, .int .u64 (y.hash : Int), .int .i64 y.birth, .int .i64 y.slot] ++ lifeC r)[5 + i * 5 + q]? = (lifeC r)[i * 5 + q]? := fun q => by
      rw [List.getElem?_append_right (by simp; omega)]
      congr 1
      simp
      omega
    refine ⟨?_, ?_, ?_, ?_, ?_⟩
    · have := hr 0
      rw [Nat.add_zero, Nat.add_zero] at this
      rw [this]
      simpa using ih.1
    · rw [hr 1]; simpa using ih.2.1
    · rw [hr 2]; simpa using ih.2.2.1
    · rw [hr 3]; simpa using ih.2.2.2.1
    · rw [hr 4]; simpa using ih.2.2.2.2
theorem lifeC_one' {L : List LifeD} : ∀ u ∈ lifeC L, u.oneCell' = true := fun u hu => by
  unfold lifeC at hu
  obtain ⟨l, hl, hu⟩ := List.mem_flatten.1 hu
  obtain ⟨x, _, rfl⟩ := List.mem_map.1 hl
  simp at hu
  rcases hu with rfl | rfl | rfl | rfl | rfl <;> rfl
theorem lifeC_set : ∀ (L : List LifeD) (i : Nat) (h : i < L.length) (e : ByteArray), lifeC (L.set i { L[i] with elem := e }) = (lifeC L).set (i * 5 + 1) (.string e)
  | [], i, h, e => by simp at h
  | y :: r, 0, h, e => by simp [lifeC]
  | y :: r, i + 1, h, e => by
    have ih := lifeC_set r i (by simpa using h) e
    rw [List.set_cons_succ, lifeC_cons, lifeC_cons]
    have e1 : (i + 1) * 5 + 1 = [Value.string y.key, .string y.elem, .int .u64 (y.hash : Int), .int .i64 y.birth, .int .i64 y.slot].length + (i * 5 + 1) := by simp; omega
    rw [e1, List.set_append_right _ _ (by omega)]
    rw [Nat.add_sub_cancel_left]
    simp only [List.getElem_cons_succ]
    rw [ih]
theorem part_life {L : List LifeD} {j m q : Nat} {u : Value} (hjm : j + m ≤ L.length) (h : (lifeC ((L.drop j).take m))[q]? = some u) : (lifeC L)[j * 5 + q]? = some u := by
  have e : lifeC L = lifeC (L.take j) ++ (lifeC ((L.drop j).take m) ++ lifeC ((L.drop j).drop m)) := by
    rw [← lifeC_append, ← lifeC_append, List.take_append_drop, List.take_append_drop]
  have hl : (lifeC (L.take j)).length = j * 5 := by rw [lifeC_length, List.length_take, Nat.min_eq_left (by omega)]
  rw [e, List.getElem?_append_right (by rw [hl]; omega), hl, Nat.add_sub_cancel_left, List.getElem?_append_left (List.getElem?_eq_some_iff.1 h).1]
  exact h
theorem row_lives {w : World} {base : Nat} {v : Value} {L : List LifeD} (h : w.ownsRow base 75 5 v L.length (lifeC L)) : ∃ a cap, v = .slice a L.length cap ∧ LivesAt w a L ∧ L.length ≤ cap := by
  rcases h.2 with ⟨rfl, e0⟩ | ⟨g, cap, cur, rfl, -, -, hle, -⟩
  · refine ⟨none, 0, by rw [e0], Or.inl (List.eq_nil_of_length_eq_zero e0), by omega⟩
  · refine ⟨some ⟨g, 0, none⟩, cap, rfl, Or.inr ⟨g, 0, rfl, fun i hi => ?_⟩, hle⟩
    obtain ⟨c0, c1, c2, c3, c4⟩ := lifeC_get L i hi
    rw [Nat.zero_add]
    exact ⟨(h.cellAt _ (by omega)).trans c0, (h.cellAt _ (by omega)).trans c1, (h.cellAt _ (by omega)).trans c2, (h.cellAt _ (by omega)).trans c3, (h.cellAt _ (by omega)).trans c4⟩
theorem row_kept8 {w w' : World} {base : Nat} {e : TypeId} {size : Nat} {v : Value} {n : Nat} {xs : List Value} (h : w.ownsRow base e size v n xs) (k : ∀ b, v.ownBlock = some b → w'.heap[b]? = w.heap[b]?) : w'.ownsRow base e size v n xs := by
  refine ⟨h.1, ?_⟩
  rcases h.2 with h2 | ⟨g, cap, cur, e1, h1, h2, h3⟩
  · exact Or.inl h2
  · exact Or.inr ⟨g, cap, cur, e1, h1, (k g (by rw [e1]; rfl)).trans h2, h3⟩
theorem Own.swap8 {w w1 w2 : World} {p : Nat} {X Y : Nat → Prop} {d : AD} (h : Own w w1 p X d) (k : Keeps w1 w2 X) (hX : ∀ i, X i → w.heap.size ≤ i) (hY : ∀ i, Y i → X i ∨ w1.heap.size ≤ i) : Own w w2 p Y d := by
  refine ⟨(h.here.keeps k (fun i _ e s => e.1.2 s)).mono (fun i _ e => ⟨e.1.1, fun y => ?_⟩), h.keeps.trans k (fun i hi e => by have := hX i e; omega)⟩
  rcases hY i y with x | x
  · exact e.1.2 x
  · have := e.2
    omega

/-- The Bench at b, its table (f: the header's words, c: its cells), its list of lives in a row of its own. -/
structure BM (w wr : World) (b p : Nat) (l : Lay) (G : Nat) (fs ts hs lv : Value) (L : List LifeD) (ad : Nat) (d : AD) (f : Nat → Int) (c : Nat → GC) : Prop where
  blk : wr.heap[b]? = some (.cells (benC p l 16 fs ((8 * G : Nat) : Int) hs ts lv (ad : Int)) 57)
  row : wr.ownsRow w.heap.size 75 5 lv L.length (lifeC L)
  base : w.heap.size ≤ b
  own : Own w wr p (fun q => q = b ∨ lv.ownBlock = some q) d
  fine : d.Fine
  small : d.small
  tab : TabD d l 16 80 G f c
  f4 : f 4 = ((8 * G : Nat) : Int)
  f7 : f 7 = ((80 : Nat) : Int)
section
variable {w wr wr' : World} {b p : Nat} {l : Lay} {G : Nat} {fs ts hs lv : Value} {L : List LifeD} {ad : Nat} {d : AD} {f : Nat → Int} {c : Nat → GC}
theorem BM.lt (h : BM w wr b p l G fs ts hs lv L ad d f c) : ∀ q, q = b ∨ lv.ownBlock = some q → q < wr.heap.size := fun q hq => hq.elim (fun e => by rw [e]; exact heap_lt h.blk) (fun e => (h.row.lt q e).2)
theorem BM.low (h : BM w wr b p l G fs ts hs lv L ad d f c) : ∀ q, q = b ∨ lv.ownBlock = some q → w.heap.size ≤ q := fun q hq => hq.elim (fun e => by rw [e]; exact h.base) (fun e => (h.row.lt q e).1)
theorem row_ne8 {base n : Nat} {v : Value} {xs : List Value} {cs : Array Value} (hb : wr.heap[b]? = some (.cells cs 57)) (h : wr.ownsRow base 75 5 v n xs) : v.ownBlock ≠ some b := fun e => by
  rcases h.2 with ⟨rfl, -⟩ | ⟨g, cap, cur, rfl, -, hg, -⟩
  · cases e
  · have eg : g = b := by simpa [Value.ownBlock] using e
    subst eg
    rw [hb] at hg
    injection Option.some.inj hg with _ h2 _
    exact absurd h2 (by decide)
theorem BM.ne (h : BM w wr b p l G fs ts hs lv L ad d f c) : lv.ownBlock ≠ some b := row_ne8 h.blk h.row
theorem BM.keep (h : BM w wr b p l G fs ts hs lv L ad d f c) : Keeps w wr (fun _ => False) := h.own.keeps
theorem BM.stay (h : BM w wr b p l G fs ts hs lv L ad d f c) (k : Keeps wr wr' (fun _ => False)) : BM w wr' b p l G fs ts hs lv L ad d f c :=
  ⟨k.blk h.blk, row_kept8 h.row (fun q hq => k.block q (h.lt q (Or.inr hq)) id), h.base, h.own.stay k, h.fine, h.small, h.tab, h.f4, h.f7⟩
/-- Behind a call on the table. -/
theorem BM.turn (h : BM w wr b p l G fs ts hs lv L ad d f c) {f' : Nat → Int} {c' : Nat → GC} (ht : TabT wr wr' p (fun k => (w.heap.size ≤ k ∧ ¬ (k = b ∨ lv.ownBlock = some k)) ∧ k < wr.heap.size) d l 16 80 G f' c') (h4 : f' 4 = ((8 * G : Nat) : Int)) (h7 : f' 7 = ((80 : Nat) : Int)) : ∃ d', BM w wr' b p l G fs ts hs lv L ad d' f' c' := by
  obtain ⟨d', hTu, hAl, hD'⟩ := ht
  exact ⟨d', hTu.2.blkS h.blk (fun e => e.1.2 (Or.inl rfl)), row_kept8 h.row (fun q hq => hTu.2.block q (h.lt q (Or.inr hq)) (fun e => e.1.2 (Or.inr hq))), h.base, h.own.turn hTu h.lt, hAl.fine h.fine, hAl.small h.small, hD', h4, h7⟩
theorem BM.lives (h : BM w wr b p l G fs ts hs lv L ad d f c) : ∃ a cap, lv = .slice a L.length cap ∧ LivesAt wr a L ∧ L.length ≤ cap := row_lives h.row
/-- The list is another row: v' lies in blocks of the list's own or new ones. -/
theorem BM.put25 (h : BM w wr b p l G fs ts hs lv L ad d f c) (k : Keeps wr wr' (fun q => lv.ownBlock = some q)) {v' : Value} {M : List LifeD} (hr : wr'.ownsRow w.heap.size 75 5 v' M.length (lifeC M)) (hn : ∀ q, v'.ownBlock = some q → lv.ownBlock = some q ∨ wr.heap.size ≤ q) :
    BM w (wr'.setCell ⟨b, 25, none⟩ v') b p l G fs ts hs v' M ad d f c := by
  have hb' : wr'.heap[b]? = some (.cells (benC p l 16 fs ((8 * G : Nat) : Int) hs ts lv (ad : Int)) 57) := k.blkS h.blk h.ne
  have hne : v'.ownBlock ≠ some b := row_ne8 hb' hr
  have ks : Keeps wr' (wr'.setCell ⟨b, 25, none⟩ v') (fun q => q = b) := Keeps.setCell (S := fun q => q = b) (Keeps.refl wr' _) ⟨b, 25, none⟩ (fun _ => rfl) v'
  have kk : Keeps wr (wr'.setCell ⟨b, 25, none⟩ v') (fun q => q = b ∨ lv.ownBlock = some q) := (k.mono (fun _ _ e => Or.inr e)).trans ks (fun _ _ e => Or.inl e)
  refine ⟨set_one' hb' 25 v' (by simp [benC]), row_kept8 hr (fun q hq => ks.block q (hr.lt q hq).2 (fun e => hne (by rw [← e]; exact hq))), h.base, h.own.swap8 kk h.low (fun i e => ?_), h.fine, h.small, h.tab, h.f4, h.f7⟩
  rcases e with e | e
  · exact Or.inl (Or.inl e)
  · exact (hn i e).imp Or.inr id
theorem BM.put26 (h : BM w wr b p l G fs ts hs lv L ad d f c) (x : Nat) : BM w (wr.setCell ⟨b, 26, none⟩ (.int .i64 (x : Int))) b p l G fs ts hs lv L x d f c := by
  have ks : Keeps wr (wr.setCell ⟨b, 26, none⟩ (.int .i64 (x : Int))) (fun q => q = b) := Keeps.setCell (S := fun q => q = b) (Keeps.refl wr _) ⟨b, 26, none⟩ (fun _ => rfl) _
  exact ⟨set_one' h.blk 26 (.int .i64 (x : Int)) (by simp [benC]), row_kept8 h.row (fun q hq => ks.block q (h.lt q (Or.inr hq)) (fun e => h.ne (by rw [← e]; exact hq))), h.base, h.own.swap8 (ks.mono (fun _ _ e => Or.inl e)) h.low (fun i e => Or.inl e), h.fine, h.small, h.tab, h.f4, h.f7⟩
/-- The elem of a life is replaced. -/
theorem BM.putE (h : BM w wr b p l G fs ts hs lv L ad d f c) {g o cap i : Nat} (hv : lv = .slice (some ⟨g, o, none⟩) L.length cap) (hi : i < L.length) (e : ByteArray) : o = 0 ∧ BM w (wr.setCell ⟨g, i * 5 + 1, none⟩ (.string e)) b p l G fs ts hs lv (L.set i { L[i] with elem := e }) ad d f c := by
  have ho : o = 0 := by
    rcases h.row.2 with ⟨q, -⟩ | ⟨g', cap', cur, q, -⟩
    · rw [hv] at q; cases q
    · rw [hv] at q; cases q; rfl
  subst ho
  refine ⟨rfl, ?_⟩
  subst hv
  obtain ⟨q1, q2⟩ := h.row.stored (i * 5 + 1) (.string e)
  have ks := Keeps.ofGrown q2
  refine ⟨ks.blkS h.blk (fun x => h.ne (by simpa [Value.ownBlock] using x)), ?_, h.base, h.own.swap8 (ks.mono (fun q _ x => Or.inr (by simpa [Value.ownBlock] using x))) h.low (fun i e => Or.inl e), h.fine, h.small, h.tab, h.f4, h.f7⟩
  rw [List.length_set, lifeC_set L i hi e]
  exact q1
end
end Go.Proofs.YtmdnknbolgedgaaGreatDoor
/-
  The list of lives: one more; one less.
-/
namespace Go.Proofs.YtmdnknbolgedgaaGreatDoor
open Go.RowKit Go.Shelf Ly Ct
set_option linter.unusedVariables false

theorem info_life : (Tryz.prog.info? 75).map (fun i => (i.zero, i.size, i.bytes)) = some (some (.agg #[.string ByteArray.empty, .string ByteArray.empty, .int .u64 0, .int .i64 0, .int .i64 0]), 5, 56) := by kernel_rfl
/-- A part of the list behind a row of one's own. -/
theorem append_lives {W : World} {B : Nat} {vr : Value} {M L : List LifeD} (hr : W.ownsRow B 75 5 vr M.length (lifeC M)) (hB : B ≤ W.heap.size) {g j m c : Nat} (hjm : j + m ≤ L.length) (hL : L.length ≤ 1000000) (hM : M.length ≤ 1000000)
    (hsrc : ∀ q u, (lifeC L)[q]? = some u → W.cell? ⟨g, q, none⟩ = some u) :
    ∃ v' w', (∀ ty, (Builtin.append_ #[55, 55] ty #[vr, .slice (some ⟨g, j * 5, none⟩) m c]).run Tryz.prog W = .ok v' w') ∧ w'.ownsRow B 75 5 v' (M.length + m) (lifeC (M ++ (L.drop j).take m)) ∧ Keeps W w' (fun k => vr.ownBlock = some k) ∧ (v'.ownBlock = vr.ownBlock ∨ v'.ownBlock = some W.heap.size) := by
  obtain ⟨i, h1, h2, h3, h4⟩ := info_parts info_life
  have hlen : ((L.drop j).take m).length = m := by rw [List.length_take, List.length_drop]; omega
  obtain ⟨v', w', hrun, hown, hgr, -, hloc⟩ := run_append_own_at (P := Tryz.prog) W B 55 0 75 i _ 5 56 Tryz.underlying55 h1 h2 h3 h4 rfl (by decide) vr M.length (lifeC M) hr ⟨g, j * 5, none⟩ m c (lifeC ((L.drop j).take m)) (by rw [lifeC_length, hlen])
    (fun q u hq => by
      rw [addr_add]
      exact hsrc _ _ (part_life hjm hq)) lifeC_one' (by simp only [maxLen]; omega) (by omega) hB
  refine ⟨v', w', fun ty => hrun, ?_, Keeps.ofGrown hgr, hloc⟩
  rw [lifeC_append]
  exact hown
section
variable {w wr wr' : World} {b p : Nat} {l : Lay} {G : Nat} {fs ts hs lv : Value} {L : List LifeD} {ad : Nat} {d : AD} {f : Nat → Int} {c : Nat → GC}
/-- The two parts joined: the list without its i-th. -/
theorem BM.without (h : BM w wr b p l G fs ts hs lv L ad d f c) {a : Option Addr} {cap : Nat} (hv : lv = .slice a L.length cap) {i : Nat} (hi : i < L.length) (hL : L.length ≤ 1000000) (c1 c2 : Nat) :
    ∃ g v1 w2, a = some ⟨g, 0, none⟩ ∧ (∀ ty, (Builtin.append_ #[55, 55] ty #[.slice none 0 0, .slice (some ⟨g, 0, none⟩) i c1]).run Tryz.prog wr = .ok v1 w2) ∧ Keeps wr w2 (fun _ => False) ∧
      ∃ v2 w3, (∀ ty, (Builtin.append_ #[55, 55] ty #[v1, .slice (if cap = i + 1 then some ⟨g, 0, none⟩ else some ⟨g, (i + 1) * 5, none⟩) (L.length - (i + 1)) c2]).run Tryz.prog w2 = .ok v2 w3) ∧ Keeps wr w3 (fun _ => False) ∧ BM w (w3.setCell ⟨b, 25, none⟩ v2) b p l G fs ts hs v2 (L.take i ++ L.drop (i + 1)) ad d f c := by
  have hsz := h.own.keeps.size
  rcases h.row.2 with ⟨e, e0⟩ | ⟨g, cap', cur, e, hb, hg, hlc, _⟩
  · omega
  rw [e] at hv
  cases hv
  have hsrc : ∀ q u, (lifeC L)[q]? = some u → wr.cell? ⟨g, q, none⟩ = some u := fun q u hq => by
    have := h.row.cells (g := g) (by rw [e]; rfl) _ _ hq
    rw [addr_add, Nat.zero_add] at this
    exact this
  have hnil : wr.ownsRow w.heap.size 75 5 (.slice none 0 0) ([] : List LifeD).length (lifeC []) := ⟨rfl, Or.inl ⟨rfl, rfl⟩⟩
  obtain ⟨v1, w2, hr1, ho1, k1, hl1⟩ := append_lives hnil hsz (g := g) (j := 0) (m := i) (c := c1) (by omega) (by omega) (by simp) hsrc
  have k1' : Keeps wr w2 (fun _ => False) := k1.mono (fun _ _ e => by cases e)
  have hsrc2 : ∀ q u, (lifeC L)[q]? = some u → w2.cell? ⟨g, q, none⟩ = some u := fun q u hq => keeps_cell k1' id (hsrc q u hq)
  have e1 : [] ++ (L.drop 0).take i = L.take i := by simp
  rw [e1] at ho1
  have hti : (L.take i).length = i := by rw [List.length_take]; omega
  have ho1' : w2.ownsRow w.heap.size 75 5 v1 (L.take i).length (lifeC (L.take i)) := by
    rw [hti]
    simpa using ho1
  have hx : ∃ v2 w3, (∀ ty, (Builtin.append_ #[55, 55] ty #[v1, .slice (if cap = i + 1 then some ⟨g, 0, none⟩ else some ⟨g, (i + 1) * 5, none⟩) (L.length - (i + 1)) c2]).run Tryz.prog w2 = .ok v2 w3) ∧ w3.ownsRow w.heap.size 75 5 v2 (i + (L.length - (i + 1))) (lifeC (L.take i ++ L.drop (i + 1))) ∧ Keeps w2 w3 (fun k => v1.ownBlock = some k) ∧ (v2.ownBlock = v1.ownBlock ∨ v2.ownBlock = some w2.heap.size) := by
    by_cases hcap : cap = i + 1
    · rw [if_pos hcap]
      have hz : L.length - (i + 1) = 0 := by omega
      rw [hz]
      obtain ⟨v2, w3, hr2, ho2, k2, hl2⟩ := append_lives ho1' (Nat.le_trans hsz k1'.size) (g := g) (j := 0) (m := 0) (c := c2) (by omega) (by omega) (by omega) hsrc2
      refine ⟨v2, w3, fun ty => by simpa using hr2 ty, ?_, k2, hl2⟩
      have e2 : L.take i ++ (L.drop 0).take 0 = L.take i ++ L.drop (i + 1) := by
        have hd : L.drop (i + 1) = [] := List.drop_eq_nil_of_le (by omega)
        rw [hd]
        simp
      rw [e2, hti] at ho2
      exact ho2
    · rw [if_neg hcap]
      obtain ⟨v2, w3, hr2, ho2, k2, hl2⟩ := append_lives ho1' (Nat.le_trans hsz k1'.size) (g := g) (j := i + 1) (m := L.length - (i + 1)) (c := c2) (by omega) (by omega) (by omega) hsrc2
      refine ⟨v2, w3, hr2, ?_, k2, hl2⟩
      have e2 : L.take i ++ (L.drop (i + 1)).take (L.length - (i + 1)) = L.take i ++ L.drop (i + 1) := by
        rw [List.take_of_length_le (l := L.drop (i + 1)) (by rw [List.length_drop]; omega)]
      rw [e2, hti] at ho2
      exact ho2
  obtain ⟨v2, w3, hr2, ho2, k2, hl2⟩ := hx
  have hn1 : ∀ k, v1.ownBlock = some k → wr.heap.size ≤ k := fun k hk => by
    rcases hl1 with q | q
    · rw [q] at hk
      cases hk
    · rw [q] at hk
      cases hk
      exact Nat.le_refl _
  have hn2 : ∀ k, v2.ownBlock = some k → wr.heap.size ≤ k := fun k hk => by
    rcases hl2 with q | q
    · rw [q] at hk
      exact hn1 k hk
    · rw [q] at hk
      cases hk
      exact k1'.size
  have k3 : Keeps wr w3 (fun _ => False) := k1'.trans k2 (fun i hi e => by have := hn1 i e; omega)
  refine ⟨g, v1, w2, rfl, fun ty => by simpa using hr1 ty, k1', v2, w3, hr2, k3, h.put25 (k3.mono (fun _ _ e => e.elim)) ?_ (fun q hq => Or.inr (hn2 q hq))⟩
  have hlen : (L.take i ++ L.drop (i + 1)).length = i + (L.length - (i + 1)) := by rw [List.length_append, hti, List.length_drop]
  rw [hlen]
  exact ho2
/-- One life more. -/
theorem BM.more (h : BM w wr b p l G fs ts hs lv L ad d f c) (x : LifeD) (hL : L.length ≤ 1000000) :
    ∃ g cap w2, (∀ ty, (Builtin.append_ #[55, 55] ty #[lv, .slice (some ⟨wr.heap.size, 0, none⟩) 1 1]).run Tryz.prog (wr.alloc (.cells #[.string x.key, .string x.elem, .int .u64 (x.hash : Int), .int .i64 x.birth, .int .i64 x.slot] 75)) = .ok (.slice (some ⟨g, 0, none⟩) (L.length + 1) cap) w2) ∧
      w2.heap[b]? = some (.cells (benC p l 16 fs ((8 * G : Nat) : Int) hs ts lv (ad : Int)) 57) ∧ BM w (w2.setCell ⟨b, 25, none⟩ (.slice (some ⟨g, 0, none⟩) (L.length + 1) cap)) b p l G fs ts hs (.slice (some ⟨g, 0, none⟩) (L.length + 1) cap) (L ++ [x]) ad d f c := by
  have hsz := h.own.keeps.size
  obtain ⟨i, h1, h2, h3, h4⟩ := info_parts info_life
  have hrow := h.row.alloc (.cells #[.string x.key, .string x.elem, .int .u64 (x.hash : Int), .int .i64 x.birth, .int .i64 x.slot] 75)
  have hnew := heap_alloc_new wr (.cells #[.string x.key, .string x.elem, .int .u64 (x.hash : Int), .int .i64 x.birth, .int .i64 x.slot] 75)
  obtain ⟨f0, f1, f2, f3, f4, -⟩ := five_cells hnew
  obtain ⟨g, cap, w2, hr, hown, hgr, hloc, hlt⟩ := run_append_lies (P := Tryz.prog) (wr.alloc (.cells #[.string x.key, .string x.elem, .int .u64 (x.hash : Int), .int .i64 x.birth, .int .i64 x.slot] 75)) 55 0 w.heap.size 75 i _ 5 56 Tryz.underlying55 h1 h2 h3 h4 rfl (by decide) lv L.length (lifeC L) hrow ⟨wr.heap.size, 0, none⟩ 1 1 (lifeC [x]) rfl
    (fun j u hu => by
      rw [lifeC_one] at hu
      rw [addr_add, Nat.zero_add]
      match j, hu with
      | 0, hu => simp at hu; subst hu; exact f0
      | 1, hu => simp at hu; subst hu; exact f1
      | 2, hu => simp at hu; subst hu; exact f2
      | 3, hu => simp at hu; subst hu; exact f3
      | 4, hu => simp at hu; subst hu; exact f4
      | j + 5, hu => simp at hu) lifeC_one' (by omega) (by simp only [maxLen]; omega) (by omega) (by simp; omega) (wr.heap.size + 1) (by simp)
  have k1 : Keeps wr w2 (fun k => lv.ownBlock = some k) := ((Keeps.refl wr _).alloc _).trans (Keeps.ofGrown hgr) (fun _ _ e => e)
  refine ⟨g, cap, w2, fun ty => hr, k1.blkS h.blk h.ne, h.put25 k1 ?_ (fun q hq => ?_)⟩
  · rw [List.length_append, List.length_singleton, lifeC_append]
    exact hown
  · have e' : g = q := by simpa [Value.ownBlock] using hq
    subst e'
    rcases hloc with e1 | e1
    · exact Or.inl e1
    · exact Or.inr (by omega)
end
end Go.Proofs.YtmdnknbolgedgaaGreatDoor
/-
  The calls of probe that are plain arithmetic: powerWithin, isGroups, isSlots, met, At, Start, Most, Slots.
-/
namespace Go.Proofs.YtmdnknbolgedgaaGreatDoor.Pb
open Go.RowKit
set_option linter.unusedVariables false

theorem power_any (n lo hi : Int) (w : World) (hlo : 1 ≤ lo) (hhi : hi ≤ 1000000) :
    Calls Tryz.prog 88 #[.int .i64 n, .int .i64 lo, .int .i64 hi] w fun e w' => e = .returned (.bool (pw n lo hi)) ∧ w' = w := by
  by_cases h1 : lo ≤ n
  · by_cases h2 : n ≤ hi
    · obtain ⟨m, rfl⟩ := Int.eq_ofNat_of_zero_le (show 0 ≤ n by omega)
      have hp : bits .and .i64 (m : Int) ((m : Int) - 1) = ((m &&& (m - 1) : Nat) : Int) := and_pred m (by omega) (by omega)
      go_enter Tryz.func88, Tryz.ntmps88
      go_wp2
      go_ret
      refine ⟨?_, rfl⟩
      have e : ((((m &&& (m - 1) : Nat) : Int) == 0) : Bool) = decide (lo ≤ (m : Int) ∧ (m : Int) ≤ hi ∧ ((m : Int).toNat &&& ((m : Int).toNat - 1)) = 0) := by
        rw [Int.toNat_natCast, Bool.eq_iff_iff, beq_iff_eq, decide_eq_true_iff]
        constructor
        · exact fun h => ⟨h1, h2, by omega⟩
        · exact fun h => by rw [h.2.2]; rfl
      exact congrArg (fun b => Ending.returned (Value.bool b)) e
    · have e : pw n lo hi = false := decide_eq_false (fun h => h2 h.2.1)
      rw [e]
      have h2' : ¬ n ≤ hi := h2
      go_enter Tryz.func88, Tryz.ntmps88
      go_wp2
      go_ret
      exact ⟨rfl, rfl⟩
  · have e : pw n lo hi = false := decide_eq_false (fun h => h1 h.1)
    rw [e]
    go_enter Tryz.func88, Tryz.ntmps88
    go_wp2
    go_ret
    exact ⟨rfl, rfl⟩

theorem isGroups_any (n : Int) (w : World) :
    Calls Tryz.prog 47 #[.int .i64 n] w fun e w' => e = .returned (.bool (pw n 1 8192)) ∧ w' = w := by
  have hp := power_any n 1 8192 w (by omega) (by omega)
  go_enter Tryz.func47, Tryz.ntmps47
  go_wp2_with fail
  refine hp.mono ?_
  rintro e w' ⟨rfl, rfl⟩
  go_wp2_with fail
  go_ret
  exact ⟨rfl, rfl⟩

theorem isSlots_any (n : Int) (w : World) :
    Calls Tryz.prog 63 #[.int .i64 n] w fun e w' => e = .returned (.bool (pw n 8 65536)) ∧ w' = w := by
  have hp := power_any n 8 65536 w (by omega) (by omega)
  go_enter Tryz.func63, Tryz.ntmps63
  go_wp2_with fail
  refine hp.mono ?_
  rintro e w' ⟨rfl, rfl⟩
  go_wp2_with fail
  go_ret
  exact ⟨rfl, rfl⟩

theorem met_val (h k n : Nat) (hk : k ≤ 13) (hn : n < 2 ^ k) :
    wrap64 ((IntKind.u64.wrap ((h : Int) + IntKind.u64.wrap ((IntKind.u64.wrap ((n : Int) * ((n : Int) + 1))).tdiv 2))).tmod ((2 ^ k : Nat) : Int)) = ((metN h (2 ^ k) n : Nat) : Int) := by
  obtain ⟨g1, g2⟩ := pow_bounds hk
  have hmul : n * (n + 1) ≤ 8192 * 8192 := Nat.mul_le_mul (by omega) (by omega)
  have e1 : (n : Int) * ((n : Int) + 1) = ((n * (n + 1) : Nat) : Int) := by rw [Int.natCast_mul]; rfl
  have e0 : IntKind.u64.wrap ((n * (n + 1) : Nat) : Int) = ((n * (n + 1) : Nat) : Int) := by
    rw [IntKind.wrap_u64]
    omega
  have e2 : IntKind.u64.wrap (((n * (n + 1) : Nat) : Int).tdiv 2) = ((n * (n + 1) / 2 : Nat) : Int) := by
    rw [IntKind.wrap_u64, Int.tdiv_eq_ediv_of_nonneg (by omega)]
    omega
  have e3 : IntKind.u64.wrap ((h : Int) + ((n * (n + 1) / 2 : Nat) : Int)) = (((h + n * (n + 1) / 2) % 18446744073709551616 : Nat) : Int) := by
    rw [IntKind.wrap_u64]
    omega
  rw [e1, e0, e2, e3, Int.tmod_eq_emod_of_nonneg (by omega), ← Int.natCast_emod, wrap_mod (by omega)]
  have hl : metN h (2 ^ k) n < 2 ^ k := metN_lt g1
  have hM : metN h (2 ^ k) n = (h + n * (n + 1) / 2) % 2 ^ k := rfl
  rw [← hM]
  unfold wrap64
  omega

set_option maxHeartbeats 1000000 in
theorem met_any (h k n : Nat) (w : World) (hk : k ≤ 13) (hn : n < 2 ^ k) (hh : h < 18446744073709551616) :
    Calls Tryz.prog 48 #[.int .u64 (h : Int), .int .i64 ((2 ^ k : Nat) : Int), .int .i64 (n : Int)] w fun e w' => e = .returned (.int .i64 ((metN h (2 ^ k) n : Nat) : Int)) ∧ w' = w := by
  obtain ⟨g1, g2⟩ := pow_bounds hk
  have hV := hide (met_val h k n hk hn)
  generalize metN h (2 ^ k) n = M at *
  generalize 2 ^ k = G at *
  go_enter Tryz.func48, Tryz.ntmps48
  go_wp2_with fail
  go_ret
  exact ⟨congrArg (fun x => Ending.returned (Value.int .i64 x)) hV.out, rfl⟩

theorem at_no (h g n : Int) (w : World) (hv : pw g 1 8192 = false ∨ n < 0 ∨ g ≤ n) :
    Calls Tryz.prog 17 #[.int .u64 h, .int .i64 g, .int .i64 n] w fun e w' => e = .returned (.int .i64 (-1)) ∧ w' = w := by
  have hp := isGroups_any g w
  cases hq : pw g 1 8192
  · rw [hq] at hp
    go_enter Tryz.func17, Tryz.ntmps17
    go_wp2_with fail
    refine hp.mono ?_
    rintro e w' ⟨rfl, rfl⟩
    go_wp2_with fail
    go_ret
    exact ⟨rfl, rfl⟩
  · rw [hq] at hp
    by_cases h0 : n < 0
    · go_enter Tryz.func17, Tryz.ntmps17
      go_wp2_with fail
      refine hp.mono ?_
      rintro e w' ⟨rfl, rfl⟩
      go_wp2_with fail
      go_ret
      exact ⟨rfl, rfl⟩
    · have h1 : g ≤ n := by
        rcases hv with h | h | h
        · rw [hq] at h; cases h
        · exact absurd h h0
        · exact h
      clear hv
      go_enter Tryz.func17, Tryz.ntmps17
      go_wp2_with fail
      refine hp.mono ?_
      rintro e w' ⟨rfl, rfl⟩
      go_wp2_with fail
      go_ret
      exact ⟨rfl, rfl⟩

theorem at_yes (h k n : Nat) (w : World) (hk : k ≤ 13) (hn : n < 2 ^ k) (hh : h < 18446744073709551616) :
    Calls Tryz.prog 17 #[.int .u64 (h : Int), .int .i64 ((2 ^ k : Nat) : Int), .int .i64 (n : Int)] w fun e w' => e = .returned (.int .i64 ((metN h (2 ^ k) n : Nat) : Int)) ∧ w' = w := by
  have hp := isGroups_any ((2 ^ k : Nat) : Int) w
  have hm := met_any h k n w hk hn hh
  rw [pwG_pow hk] at hp
  generalize metN h (2 ^ k) n = M at *
  generalize 2 ^ k = G at *
  have hn' : (n : Int) < (G : Int) := by omega
  go_enter Tryz.func17, Tryz.ntmps17
  go_wp2_with fail
  refine hp.mono ?_
  rintro e w' ⟨rfl, rfl⟩
  go_wp2_with fail
  refine hm.mono ?_
  rintro e w' ⟨rfl, rfl⟩
  go_wp2_with fail
  go_ret
  exact ⟨rfl, rfl⟩

/-- The group at step n, or -1. -/
def atN (h : Nat) (g n : Int) : Int := if pw g 1 8192 = true ∧ 0 ≤ n ∧ n < g then ((metN h g.toNat n.toNat : Nat) : Int) else -1
theorem at_any (h : Nat) (g n : Int) (w : World) (hh : h < 18446744073709551616) :
    Calls Tryz.prog 17 #[.int .u64 (h : Int), .int .i64 g, .int .i64 n] w fun e w' => e = .returned (.int .i64 (atN h g n)) ∧ w' = w := by
  by_cases hc : pw g 1 8192 = true ∧ 0 ≤ n ∧ n < g
  · unfold atN
    rw [if_pos hc]
    obtain ⟨h1, h2, h3⟩ := hc
    obtain ⟨k, hk, rfl⟩ := pwG h1
    obtain ⟨m, rfl⟩ := Int.eq_ofNat_of_zero_le h2
    exact at_yes h k m w hk (by omega) hh
  · unfold atN
    rw [if_neg hc]
    refine at_no h g n w ?_
    cases hq : pw g 1 8192
    · exact .inl rfl
    · exact .inr (by
        by_cases h0 : n < 0
        · exact .inl h0
        · exact .inr (by
            refine Int.not_lt.1 fun hlt => hc ⟨hq, by omega, hlt⟩))

/-- A call of At by its answer. -/
def AtIs (h g n r : Int) : Prop := ∃ H : Nat, h = (H : Int) ∧ H < 18446744073709551616 ∧ r = atN H g n
theorem at_is {h g n r : Int} (q : AtIs h g n r) (w : World) :
    Calls Tryz.prog 17 #[.int .u64 h, .int .i64 g, .int .i64 n] w fun e w' => e = .returned (.int .i64 r) ∧ w' = w := by
  obtain ⟨H, rfl, h1, rfl⟩ := q
  exact at_any H g n w h1
theorem atN_yes {h k n : Nat} (hk : k ≤ 13) (hn : n < 2 ^ k) : atN h ((2 ^ k : Nat) : Int) (n : Int) = ((metN h (2 ^ k) n : Nat) : Int) := by
  unfold atN
  rw [if_pos ⟨pwG_pow hk, by omega, by omega⟩]
  rfl

theorem most_any (s : Int) (w : World) :
    Calls Tryz.prog 36 #[.int .i64 s] w fun e w' => e = .returned (.int .i64 (mostN s)) ∧ w' = w := by
  have hp := isSlots_any s w
  cases hq : pw s 8 65536
  · rw [hq] at hp
    have e : mostN s = 0 := by unfold mostN; rw [hq]; rfl
    rw [e]
    go_enter Tryz.func36, Tryz.ntmps36
    go_wp2_with fail
    refine hp.mono ?_
    rintro e w' ⟨rfl, rfl⟩
    go_wp2_with fail
    go_ret
    exact ⟨rfl, rfl⟩
  · rw [hq] at hp
    have e : mostN s = s / 8 * 7 := by unfold mostN; rw [hq]; rfl
    rw [e]
    obtain ⟨h1, h2, _⟩ := (pw_iff (by omega)).1 hq
    go_enter Tryz.func36, Tryz.ntmps36
    go_wp2_with fail
    refine hp.mono ?_
    rintro e w' ⟨rfl, rfl⟩
    go_wp2_with fail
    go_ret
    exact ⟨rfl, rfl⟩
end Go.Proofs.YtmdnknbolgedgaaGreatDoor.Pb
/-
  begin: the header and the empty groups are laid into two new blocks.
-/
namespace Go.Proofs.YtmdnknbolgedgaaGreatDoor
open Go.RowKit Go.Shelf Ly Ct
set_option linter.unusedVariables false

/-- A table under way: the first k groups are laid. -/
structure TabP (d0 d : AD) (l : Lay) (off gr G k : Nat) (f : Nat → Int) : Prop where
  fine : d.Fine
  valid : validB l = true
  pos : 0 < G
  few : G ≤ 8192
  good : d.goodB (off : Int) 64 = true
  len : off + 64 ≤ d.bs.length
  glen : gr + G * l.g.toNat ≤ d.bs.length
  head : ∀ i, i < 8 → hdr d off i = f i
  there : ∀ i, i < G → d.goodB ((gr + i * l.g.toNat : Nat) : Int) l.g = true
  grp : ∀ i, i < k → GroupAt d l (gr + i * l.g.toNat) (fun _ => GC.zero)
  le : k ≤ G
  apart : off + 64 ≤ gr ∨ gr + G * l.g.toNat ≤ off
  alt : Alt d0 d off gr (G * l.g.toNat)
section
variable {d0 d d' : AD} {l : Lay} {off gr G k : Nat} {f : Nat → Int}
theorem TabP.in (h : TabP d0 d l off gr G k f) {i : Nat} (hi : i < G) : gr ≤ gr + i * l.g.toNat ∧ gr + i * l.g.toNat + l.g.toNat ≤ gr + G * l.g.toNat := by
  have := mul_apart (s := l.g.toNat) hi
  omega
theorem TabP.done (h : TabP d0 d l off gr G G f) : TabD d l off gr G f (fun _ => GC.zero) := ⟨h.valid, h.pos, h.few, h.good, h.len, h.glen, h.head, h.grp, h.apart⟩
theorem TabP.off_le (h : TabP d0 d l off gr G k f) : off ≤ 134217728 ∧ gr ≤ 134217728 := by
  have h1 := h.len
  have h2 := h.glen
  have h3 := h.fine.most
  omega
theorem TabP.set (h : TabP d0 d l off gr G k f) {i : Nat} (hi : i < 8) {v : Int} (hv : fitsI v) :
    storeR d ((off : Int) + (i : Int) * 8) 8 (u64of v) = (0, d.bytes (splice d.bs (off + i * 8) (leBytes (u64of v) 8))) ∧ TabP d0 (d.bytes (splice d.bs (off + i * 8) (leBytes (u64of v) 8))) l off gr G k (updI f i v) := by
  have hlen : off + i * 8 + (leBytes (u64of v) 8).length ≤ d.bs.length := by rw [leBytes_length]; have := h.len; omega
  have ht : Touch d (d.bytes (splice d.bs (off + i * 8) (leBytes (u64of v) 8))) off 64 := Touch.splice d (by omega) (by rw [leBytes_length]; omega) hlen
  have hg8 := good_sub h.good (x := (i : Int) * 8) (m := 8) (by omega) (by omega) (by omega)
  refine ⟨?_, ⟨ht.fine h.fine, h.valid, h.pos, h.few, by rw [ht.goodB]; exact h.good, by rw [ht.len]; exact h.len, by rw [ht.len]; exact h.glen, fun j hj => ?_, fun j hj => by rw [ht.goodB]; exact h.there j hj, fun j hj => (h.grp j hj).touch ht ?_, h.le, h.apart, h.alt.trans (Alt.head ht)⟩⟩
  · unfold storeR
    rw [hg8, show ((off : Int) + (i : Int) * 8).toNat = off + i * 8 by omega]
    rfl
  · rw [hdr_set h.len hi hj]
    unfold updI
    have : u64of v % 18446744073709551616 = u64of v := Nat.mod_eq_of_lt (u64of_lt v)
    rw [this, wrap_u64of hv, h.head j hj]
  · have := h.in (Nat.lt_of_lt_of_le hj h.le)
    rcases h.apart with q | q
    · right; omega
    · left; omega
theorem TabP.reset (h : TabP d0 d l off gr G k f) (hk : k < G) : (resetG d l ((gr + k * l.g.toNat : Nat) : Int)).1 = 0 ∧ TabP d0 (resetG d l ((gr + k * l.g.toNat : Nat) : Int)).2 l off gr G (k + 1) f := by
  have hT : thereB d l ((gr + k * l.g.toNat : Nat) : Int) = true := by
    unfold thereB
    rw [h.valid, h.there k hk]
    rfl
  obtain ⟨h1, h2, ht⟩ := reset_group h.fine hT
  have hik := h.in hk
  refine ⟨h1, ⟨ht.fine h.fine, h.valid, h.pos, h.few, by rw [ht.goodB]; exact h.good, by rw [ht.len]; exact h.len, by rw [ht.len]; exact h.glen, fun j hj => ?_, fun j hj => by rw [ht.goodB]; exact h.there j hj, fun j hj => ?_, hk, h.apart, h.alt.trans (Alt.grp hk ht)⟩⟩
  · rw [hdr_touch ht ?_ hj]
    · exact h.head j hj
    · rcases h.apart with q | q
      · left; omega
      · right; omega
  · by_cases e : j = k
    · subst e
      exact h2
    · have hlt : j < k := by omega
      refine (h.grp j hlt).touch ht ?_
      have := mul_apart (s := l.g.toNat) hlt
      omega
end

section
variable {w : World} {p : Nat} {F : Nat → Prop} {d0 d : AD} {l : Lay} {off gr G k : Nat} {f : Nat → Int}
/-- set, of a table under way. -/
theorem tset_p (hA : Arena w p F d) (hFl : ∀ k, F k → k < w.heap.size) (h : TabP d0 d l off gr G k f) (i : Nat) (hi : i < 8) (v : Int) (hv : fitsI v) :
    Calls Tryz.prog 46 #[.agg #[.pointer (some ⟨p, 0, none⟩), .int .i64 l.k, .int .i64 l.e, .int .i64 l.a, .int .i64 l.b, .int .i64 l.c, .int .i64 l.eo, .int .i64 l.bo, .int .i64 l.s, .int .i64 l.g, .int .i64 (off : Int)], .int .i64 (i : Int), .int .i64 v] w fun e w' => e = .returned (.int .i64 0) ∧ ∃ d', Turned w w' p F d' ∧ TabP d0 d' l off gr G k (updI f i v) := by
  have ho := h.off_le
  obtain ⟨e1, h1⟩ := h.set hi hv
  have := tset_any hA h.fine hFl l (off : Int) (i : Int) v (by omega) (by omega) (by omega) (by omega)
  rw [e1] at this
  refine this.mono ?_
  rintro e w' ⟨rfl, hT⟩
  exact ⟨rfl, _, hT, h1⟩
theorem treset_p (hA : Arena w p F d) (hFl : ∀ k, F k → k < w.heap.size) (h : TabP d0 d l off gr G k f) (hk : k < G) :
    Calls Tryz.prog 70 #[.agg #[.pointer (some ⟨p, 0, none⟩), .int .i64 l.k, .int .i64 l.e, .int .i64 l.a, .int .i64 l.b, .int .i64 l.c, .int .i64 l.eo, .int .i64 l.bo, .int .i64 l.s, .int .i64 l.g, .int .i64 ((gr : Int) + (k : Int) * l.g)]] w fun e w' => e = .returned (.int .i64 0) ∧ ∃ d', Turned w w' p F d' ∧ TabP d0 d' l off gr G (k + 1) f := by
  have ho := h.off_le
  have hv := valid_more h.valid
  have hik := h.in hk
  have hgl := h.glen
  have hm := h.fine.most
  obtain ⟨e1, h1⟩ := h.reset hk
  have e : ((gr + k * l.g.toNat : Nat) : Int) = (gr : Int) + (k : Int) * l.g := by
    rw [Int.natCast_add, Int.natCast_mul, Int.toNat_of_nonneg (by omega)]
  rw [e] at e1 h1
  have := greset_any hA h.fine hFl l ((gr : Int) + (k : Int) * l.g) (by rw [← e]; exact fitsI_mk (by omega) (by omega)) (fitsI_mk (by omega) (by omega))
  rw [e1] at this
  refine this.mono ?_
  rintro r w' ⟨rfl, hT⟩
  exact ⟨rfl, _, hT, h1⟩
end
end Go.Proofs.YtmdnknbolgedgaaGreatDoor
/-
  begin.
-/
namespace Go.Proofs.YtmdnknbolgedgaaGreatDoor
open Go.RowKit Go.Shelf Ly Ct
set_option linter.unusedVariables false

/-- The header of a new table. -/
def hdr0 (slots most depth gr : Int) : Nat → Int := updI (updI (updI (updI (updI (fun _ => 0) 0 2) 4 slots) 5 most) 6 depth) 7 gr

/-- begin under way: the arena has turned, the struct stands in its block. -/
structure Bg (d0 : AD) (W0 W : World) (p : Nat) (F : Nat → Prop) (B : Nat) (l : Lay) (off gr G k : Nat) (f : Nat → Int) : Prop where
  lt : B < W0.heap.size
  nF : ¬ F B
  fl : ∀ i, F i → i < W0.heap.size
  dat : ∃ d, Turned W0 W p F d ∧ TabP d0 d l off gr G k f
  blk : W.heap[B]? = some (.cells #[.pointer (some ⟨p, 0, none⟩), .int .i64 l.k, .int .i64 l.e, .int .i64 l.a, .int .i64 l.b, .int .i64 l.c, .int .i64 l.eo, .int .i64 l.bo, .int .i64 l.s, .int .i64 l.g, .int .i64 (off : Int)] 36)
section
variable {d0 : AD} {W0 W W' : World} {p : Nat} {F : Nat → Prop} {B : Nat} {l : Lay} {off gr G k : Nat} {f : Nat → Int}
theorem Bg.stay (h : Bg d0 W0 W p F B l off gr G k f) (q : Keeps W W' (fun _ => False)) : Bg d0 W0 W' p F B l off gr G k f := by
  obtain ⟨d, hT, hP⟩ := h.dat
  exact ⟨h.lt, h.nF, h.fl, ⟨d, hT.post q, hP⟩, q.blk h.blk⟩
theorem Bg.nB (h : Bg d0 W0 W p F B l off gr G k f) : ¬ ((F B ∨ W0.heap.size ≤ B) ∧ B < W.heap.size) := fun q => q.1.elim h.nF (fun q => by have := h.lt; omega)
theorem Bg.cells (h : Bg d0 W0 W p F B l off gr G k f) : C11 B p l (off : Int) W := c11_of h.blk
theorem bg_set (h : Bg d0 W0 W p F B l off gr G k f) (i : Nat) (hi : i < 8) (v : Int) (hv : fitsI v) :
    Calls Tryz.prog 46 #[.agg #[.pointer (some ⟨p, 0, none⟩), .int .i64 l.k, .int .i64 l.e, .int .i64 l.a, .int .i64 l.b, .int .i64 l.c, .int .i64 l.eo, .int .i64 l.bo, .int .i64 l.s, .int .i64 l.g, .int .i64 (off : Int)], .int .i64 (i : Int), .int .i64 v] W fun e w' => e = .returned (.int .i64 0) ∧ Bg d0 W0 w' p F B l off gr G k (updI f i v) := by
  obtain ⟨d, hT, hP⟩ := h.dat
  refine (tset_p hT.arena (fun _ q => q.2) hP i hi v hv).mono ?_
  rintro e w' ⟨rfl, d', hT2, hP2⟩
  exact ⟨rfl, h.lt, h.nF, h.fl, ⟨d', hT.then hT2, hP2⟩, (hT2.2.block B (heap_lt h.blk) h.nB).trans h.blk⟩
theorem bg_reset (h : Bg d0 W0 W p F B l off gr G k f) (hk : k < G) :
    Calls Tryz.prog 70 #[.agg #[.pointer (some ⟨p, 0, none⟩), .int .i64 l.k, .int .i64 l.e, .int .i64 l.a, .int .i64 l.b, .int .i64 l.c, .int .i64 l.eo, .int .i64 l.bo, .int .i64 l.s, .int .i64 l.g, .int .i64 ((gr : Int) + (k : Int) * l.g)]] W fun e w' => e = .returned (.int .i64 0) ∧ Bg d0 W0 w' p F B l off gr G (k + 1) f := by
  obtain ⟨d, hT, hP⟩ := h.dat
  refine (treset_p hT.arena (fun _ q => q.2) hP hk).mono ?_
  rintro e w' ⟨rfl, d', hT2, hP2⟩
  exact ⟨rfl, h.lt, h.nF, h.fl, ⟨d', hT.then hT2, hP2⟩, (hT2.2.block B (heap_lt h.blk) h.nB).trans h.blk⟩
end

set_option maxRecDepth 100000 in
set_option maxHeartbeats 1000000 in
theorem begin_any {w : World} {p : Nat} {F : Nat → Prop} {d0 d : AD} (hA : Arena w p F d) (hFl : ∀ k, F k → k < w.heap.size) (l : Lay) (off gr G : Nat) (h : TabP d0 d l off gr G 0 (fun _ => 0)) (depth : Int) (hd : fitsI depth) :
    Calls Tryz.prog 40 #[.agg #[.pointer (some ⟨p, 0, none⟩), .int .i64 l.k, .int .i64 l.e, .int .i64 l.a, .int .i64 l.b, .int .i64 l.c, .int .i64 l.eo, .int .i64 l.bo, .int .i64 l.s, .int .i64 l.g, .int .i64 (off : Int)], .int .i64 ((8 * G : Nat) : Int), .int .i64 depth, .int .i64 (gr : Int)] w fun e w' => (∃ v, e = .returned v) ∧ ∃ d', Turned w w' p F d' ∧ d'.Fine ∧ TabD d' l off gr G (hdr0 ((8 * G : Nat) : Int) (Pb.mostN ((8 * G : Nat) : Int)) depth (gr : Int)) (fun _ => GC.zero) ∧ Alt d0 d' off gr (G * l.g.toNat) := by
  have hnB : ¬ F w.heap.size := fun q => Nat.lt_irrefl _ (hFl _ q)
  have hM := fun W => Pb.most_any ((8 * G : Nat) : Int) W
  have ho := h.off_le
  have hfew := h.few
  obtain ⟨f9, hf9⟩ : ∃ f9, hdr0 ((8 * G : Nat) : Int) (Pb.mostN ((8 * G : Nat) : Int)) depth (gr : Int) = f9 := ⟨_, rfl⟩
  rw [hf9]
  have hgr : fitsI (gr : Int) := fitsI_mk (by omega) (by omega)
  have hsl : fitsI ((8 * G : Nat) : Int) := fitsI_mk (by omega) (by omega)
  have hmo : fitsI (Pb.mostN ((8 * G : Nat) : Int)) := by
    unfold Pb.mostN
    split
    · exact fitsI_mk (by omega) (by omega)
    · exact fitsI_mk (by omega) (by omega)
  have hv := valid_more h.valid
  have hGrp := fun (i : Nat) (hi : i < G) W => tgroup_any p l (off : Int) (gr : Int) (i : Int) W (by omega) (by omega) (by omega) (by omega) (by omega) (by omega)
  have hB0 : Bg d0 (w.alloc (.cells #[.pointer (some ⟨p, 0, none⟩), .int .i64 l.k, .int .i64 l.e, .int .i64 l.a, .int .i64 l.b, .int .i64 l.c, .int .i64 l.eo, .int .i64 l.bo, .int .i64 l.s, .int .i64 l.g, .int .i64 (off : Int)] 36)) (w.alloc (.cells #[.pointer (some ⟨p, 0, none⟩), .int .i64 l.k, .int .i64 l.e, .int .i64 l.a, .int .i64 l.b, .int .i64 l.c, .int .i64 l.eo, .int .i64 l.bo, .int .i64 l.s, .int .i64 l.g, .int .i64 (off : Int)] 36)) p F w.heap.size l off gr G 0 (fun _ => 0) :=
    ⟨by simp, hnB, fun i hi => by have := hFl i hi; simp; omega, ⟨d, (hA.keeps ((Keeps.refl _ _).alloc _) (fun _ _ _ e => e)).same (Keeps.refl _ _), h⟩, heap_alloc_new _ _⟩
  have K0 : Keeps w (w.alloc (.cells #[.pointer (some ⟨p, 0, none⟩), .int .i64 l.k, .int .i64 l.e, .int .i64 l.a, .int .i64 l.b, .int .i64 l.c, .int .i64 l.eo, .int .i64 l.bo, .int .i64 l.s, .int .i64 l.g, .int .i64 (off : Int)] 36)) (fun _ => False) := (Keeps.refl _ _).alloc _
  have hfin : Hid (∀ W f, f = f9 → Bg d0 (w.alloc (.cells #[.pointer (some ⟨p, 0, none⟩), .int .i64 l.k, .int .i64 l.e, .int .i64 l.a, .int .i64 l.b, .int .i64 l.c, .int .i64 l.eo, .int .i64 l.bo, .int .i64 l.s, .int .i64 l.g, .int .i64 (off : Int)] 36)) W p F w.heap.size l off gr G G f → ∃ d', Turned w W p F d' ∧ d'.Fine ∧ TabD d' l off gr G f9 (fun _ => GC.zero) ∧ Alt d0 d' off gr (G * l.g.toNat)) := fun W f hf hB => by
    obtain ⟨d', hT, hP⟩ := hB.dat
    subst hf
    exact ⟨d', Turned.pre K0 hT, hP.fine, hP.done, hP.alt⟩
  clear hv
  go_enter Tryz.func40, Tryz.ntmps40
  go_wp2_with fail
  generalize (w.alloc (.cells #[.pointer (some ⟨p, 0, none⟩), .int .i64 l.k, .int .i64 l.e, .int .i64 l.a, .int .i64 l.b, .int .i64 l.c, .int .i64 l.eo, .int .i64 l.bo, .int .i64 l.s, .int .i64 l.g, .int .i64 (off : Int)] 36)) = W0 at *
  unfold hdr0 at hf9
  replace hf9 := hide hf9
  clear hA hFl h hnB K0
  have hM' : ∀ W, Calls Tryz.prog 36 #[.int .i64 ((8 * G : Nat) : Int)] W fun e w' => e = .returned (.int .i64 (Pb.mostN ((8 * G : Nat) : Int))) ∧ w' = W := hM
  clear hM
  generalize Pb.mostN ((8 * G : Nat) : Int) = mo at *
  have hs8 : (((8 * G : Nat) : Int)).tdiv 8 = (G : Int) := by
    rw [Int.tdiv_eq_ediv_of_nonneg (by omega)]
    omega
  have hsb : (0 : Int) ≤ ((8 * G : Nat) : Int) := by omega
  generalize ((8 * G : Nat) : Int) = sl at *
  have s0 := bg_set hB0 0 (by omega) 2 (fitsI_mk (by omega) (by omega))
  rw [show ((0 : Nat) : Int) = 0 from rfl] at s0
  (with_reducible refine s0.mono ?_)
  clear s0
  rintro r W1 ⟨rfl, B1⟩
  clear hB0
  obtain ⟨c0, c1, c2, c3, c4, c5, c6, c7, c8, c9, c10⟩ := B1.cells
  go_wp2_with fail
  have s0 := bg_set B1 4 (by omega) sl hsl
  rw [show ((4 : Nat) : Int) = 4 from rfl] at s0
  (with_reducible refine s0.mono ?_)
  clear s0
  rintro r W2 ⟨rfl, B2⟩
  clear B1 c0 c1 c2 c3 c4 c5 c6 c7 c8 c9 c10
  have C2 := B2.cells
  have s3 := bg_set (B2.stay (Keeps.refl _ (fun _ => False)).drew) 5 (by omega) mo hmo
  rw [show ((5 : Nat) : Int) = 5 from rfl] at s3
  go_wp2_with fail
  go_region_held3 (fun w' => w'.cell? ⟨w.heap.size, 0, none⟩ = some (.pointer (some ⟨p, 0, none⟩)) ∧ w'.cell? ⟨w.heap.size, 1, none⟩ = some (.int .i64 l.k) ∧ w'.cell? ⟨w.heap.size, 2, none⟩ = some (.int .i64 l.e) ∧ w'.cell? ⟨w.heap.size, 3, none⟩ = some (.int .i64 l.a) ∧ w'.cell? ⟨w.heap.size, 4, none⟩ = some (.int .i64 l.b) ∧ w'.cell? ⟨w.heap.size, 5, none⟩ = some (.int .i64 l.c) ∧ w'.cell? ⟨w.heap.size, 6, none⟩ = some (.int .i64 l.eo) ∧ w'.cell? ⟨w.heap.size, 7, none⟩ = some (.int .i64 l.bo) ∧ w'.cell? ⟨w.heap.size, 8, none⟩ = some (.int .i64 l.s) ∧ w'.cell? ⟨w.heap.size, 9, none⟩ = some (.int .i64 l.g) ∧ w'.cell? ⟨w.heap.size, 10, none⟩ = some (.int .i64 off)) (first | exact c11_drew C2 | exact B3.cells | assumption)
    (first | (go_at_call 36; refine (hM' _).mono ?_; rintro r wS ⟨rfl, rfl⟩) | (go_at_call 46; (with_reducible refine s3.mono ?_); rintro r W3 ⟨rfl, B3⟩))
  clear C2 B2 s3
  obtain ⟨c0, c1, c2, c3, c4, c5, c6, c7, c8, c9, c10⟩ := B3.cells
  go_wp2_with fail
  have s0 := bg_set B3 6 (by omega) depth hd
  rw [show ((6 : Nat) : Int) = 6 from rfl] at s0
  (with_reducible refine s0.mono ?_)
  clear s0
  rintro r W4 ⟨rfl, B4⟩
  clear B3 c0 c1 c2 c3 c4 c5 c6 c7 c8 c9 c10
  obtain ⟨c0, c1, c2, c3, c4, c5, c6, c7, c8, c9, c10⟩ := B4.cells
  go_wp2_with fail
  have s0 := bg_set B4 7 (by omega) (gr : Int) hgr
  rw [show ((7 : Nat) : Int) = 7 from rfl] at s0
  (with_reducible refine s0.mono ?_)
  clear s0
  rintro r W5 ⟨rfl, B5⟩
  clear B4 c0 c1 c2 c3 c4 c5 c6 c7 c8 c9 c10
  rw [hf9.out] at B5
  go_wp2_with fail
  go_loopg [26] G (fun g v26 wr => ∃ i : Nat, g = G - i ∧ i ≤ G ∧ v26 = .int .i64 (i : Int) ∧ Bg d0 W0 wr p F w.heap.size l off gr G i f9)
  case atStart => exact ⟨0, rfl, Nat.zero_le _, rfl, B5⟩
  case round =>
    clear B5
    obtain ⟨i, rfl, hi, rfl, Bi⟩ := hrel
    by_cases hlt : i < G
    · have hlt' : (i : Int) < (G : Int) := by omega
      obtain ⟨c0, c1, c2, c3, c4, c5, c6, c7, c8, c9, c10⟩ := Bi.cells
      go_wp2_with fail
      (with_reducible refine (hGrp i hlt _).mono ?_)
      rintro r w6 ⟨rfl, k6⟩
      have B6 := Bi.stay k6
      clear Bi c0 c1 c2 c3 c4 c5 c6 c7 c8 c9 c10
      go_wp2_with fail
      (with_reducible refine (bg_reset B6 hlt).mono ?_)
      rintro r w7 ⟨rfl, B7⟩
      clear B6
      go_wp2_with fail
      go_roundg (G - (i + 1))
      case measure => omega
      case rel => exact ⟨i + 1, rfl, by omega, by simp, B7⟩
    · obtain rfl : i = G := by omega
      have hlt' : ¬ (i : Int) < (i : Int) := by omega
      have HF := hide (hfin.out wr f9 rfl Bi)
      clear Bi hfin
      go_wp2_with fail
      go_end0
      exact ⟨⟨_, rfl⟩, HF.out⟩
end Go.Proofs.YtmdnknbolgedgaaGreatDoor
/-
  A new table's two blocks, as data.
-/
namespace Go.Proofs.YtmdnknbolgedgaaGreatDoor
open Go.RowKit Go.Shelf Ly Ct
set_option linter.unusedVariables false

theorem numOf_zeros : ∀ n : Nat, numOf (zeros n) = 0
  | 0 => rfl
  | n + 1 => by
    have e : zeros (n + 1) = 0 :: zeros n := rfl
    rw [e]
    simp [numOf, numOf_zeros n]
theorem drop_zeros (a n k m : Nat) (bs : List UInt8) (h : bs.length ≤ a) (h2 : a + m ≤ bs.length + n) : ((bs ++ zeros n).drop a).take m = zeros m := by
  apply List.ext_getElem?
  intro j
  simp only [List.getElem?_take, List.getElem?_drop]
  unfold zeros
  split
  · rw [List.getElem?_append_right (by omega), List.getElem?_replicate, List.getElem?_replicate, if_pos (by omega), if_pos (by omega)]
  · rw [List.getElem?_replicate, if_neg (by omega)]
/-- Two new blocks of zeros: a table under way. -/
theorem newP {d : AD} {l : Lay} {G c : Nat} (hF : d.Fine) (hv : validB l = true) (hG : 0 < G) (hG2 : G ≤ 8192) (hc : G * l.g.toNat ≤ c) (hr : d.bs.length + 64 + c ≤ 134217728) (hu : d.used + 64 + c ≤ d.limit) :
    TabP ((d.took 64).took c) ((d.took 64).took c) l d.bs.length (d.bs.length + 64) G 0 (fun _ => 0) := by
  have hvm := valid_more hv
  have hg0 : 0 < l.g.toNat := by omega
  have hc0 : 0 < c := Nat.lt_of_lt_of_le (Nat.mul_pos hG hg0) hc
  have hF1 : (d.took 64).Fine := hF.took (by omega) (by omega) (by omega)
  have hl1 : (d.took 64).bs.length = d.bs.length + 64 := by rw [AD.took_bs, List.length_append, zeros_length]
  have hF2 : ((d.took 64).took c).Fine := hF1.took hc0 (by omega) (by rw [AD.took_used, AD.took_limit]; omega)
  have hbs : ((d.took 64).took c).bs = d.bs ++ zeros (64 + c) := by
    rw [AD.took_bs, AD.took_bs, List.append_assoc]
    congr 1
    unfold zeros
    rw [List.replicate_append_replicate]
  have hlen : ((d.took 64).took c).bs.length = d.bs.length + 64 + c := by rw [hbs, List.length_append, zeros_length]; omega
  have hL : ((d.took 64).took c).L = d.L ++ [(d.bs.length, 64)] ++ [(d.bs.length + 64, c)] := by rw [AD.took_L, AD.took_L, hl1]
  have hlv : ((d.took 64).took c).lv = upd (upd d.lv (d.bs.length : Nat) (some ((64 : Nat) : Int))) ((d.bs.length + 64 : Nat) : Int) (some (c : Int)) := by rw [AD.took_lv, AD.took_lv, hl1]
  have hv1 : ((d.took 64).took c).lv (d.bs.length : Int) = some 64 := by
    rw [hlv, upd_other _ _ _ _ (by omega), upd_same]
    rfl
  have hv2 : ((d.took 64).took c).lv ((d.bs.length + 64 : Nat) : Int) = some (c : Int) := by rw [hlv, upd_same]
  have m1 : (d.bs.length, 64) ∈ ((d.took 64).took c).L := by rw [hL]; simp
  have m2 : (d.bs.length + 64, c) ∈ ((d.took 64).took c).L := by rw [hL]; simp
  refine ⟨hF2, hv, hG, hG2, AD.goodB_mk m1 hv1 (by omega) (by simp) (by simp), by omega, by omega, fun i hi => ?_, fun i hi => ?_, fun i hi => by omega, Nat.zero_le _, Or.inl (Nat.le_refl _), Alt.refl _ _ _ _⟩
  · unfold hdr AD.span
    rw [hbs, show ((d.bs.length : Int) + (i : Int) * 8).toNat = d.bs.length + i * 8 by omega, show (8 : Int).toNat = 8 from rfl, drop_zeros _ _ 0 _ _ (by omega) (by omega), numOf_zeros]
    unfold wrap64
    omega
  · have := mul_apart (s := l.g.toNat) hi
    exact AD.goodB_mk m2 hv2 (by omega) (by show ((d.bs.length + 64 : Nat) : Int) ≤ ((d.bs.length + 64 + i * l.g.toNat : Nat) : Int); omega) (by show ((d.bs.length + 64 + i * l.g.toNat : Nat) : Int) - ((d.bs.length + 64 : Nat) : Int) ≤ (c : Int) - l.g; omega)
end Go.Proofs.YtmdnknbolgedgaaGreatDoor
