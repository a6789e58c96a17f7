import Derived.Test.YtlgmpnaalifegabWalks16
import Derived.Test.YtlgmpnaalifegabWalks8
import Derived.Test.YtlgmpnaalifegabWalks11
namespace Go.Proofs.Ytlgmpnaalifegab
open Go.RowKit

/-- A call that may change the memory, whatever it answers. -/
def AnyPost (w : World) (b g : Nat) (e : Ending) (w' : World) : Prop :=
  ∃ x g' bs' sp', e = .returned (.int .i64 x) ∧ MemAt 60 5 w' b g' bs' sp' ∧ (g' = g ∨ w.heap.size ≤ g') ∧ Keeps w w' (fun k => k = b ∨ k = g)
theorem any_same {w : World} {b g : Nat} {bs sp : List UInt8} (m : MemAt 60 5 w b g bs sp) {x : Int} {e : Ending} {w' : World} (h : e = .returned (.int .i64 x) ∧ w' = w) : AnyPost w b g e w' := by
  obtain ⟨h1, h2⟩ := h
  subst h2
  exact ⟨x, g, bs, sp, h1, m, Or.inl rfl, Keeps.refl _ _⟩
theorem any_write {w : World} {b g : Nat} {bs sp : List UInt8} {e : Ending} {w' : World} (h : WritePost w b g bs sp e w') : AnyPost w b g e w' :=
  ⟨0, g, bs, sp, h.1, h.2.1, Or.inl rfl, h.2.2.mono (fun _ _ x => Or.inr x)⟩

theorem grow_any (w : World) (b g : Nat) (bs sp : List UInt8) (m : MemAt 60 5 w b g bs sp) (s : Int) :
    Calls Try.prog 28 #[.pointer (some ⟨b, 0, none⟩), .int .i64 s] w fun e w' => AnyPost w b g e w' := by
  by_cases h : s < bs.length ∨ 134217728 < s
  · exact (grow_no w b g bs sp m s h).mono fun e w' => any_same m
  · obtain ⟨n, rfl⟩ := Int.eq_ofNat_of_zero_le (show 0 ≤ s by omega)
    refine (grow_yes w b g bs sp m n (by omega) (by omega)).mono fun e w' h => ?_
    obtain ⟨g', sp', h1, h2, h3, h4⟩ := h
    exact ⟨0, g', _, sp', h1, h3, h2, h4⟩
theorem store_any (w : World) (b g : Nat) (bs sp : List UInt8) (m : MemAt 60 5 w b g bs sp) (o n : Int) (v : Nat) :
    Calls Try.prog 13 #[.pointer (some ⟨b, 0, none⟩), .int .i64 o, .int .i64 n, .int .u64 (v : Int)] w fun e w' => AnyPost w b g e w' := by
  cases hn : widthB n
  · exact (store_width w _ o n v hn).mono fun e w' => any_same m
  · cases hi : insideB bs.length o n
    · exact (store_out w b g bs sp m o n v hn hi).mono fun e w' => any_same m
    · obtain ⟨q, k, rfl, rfl, hq⟩ := insideB_nat hi
      exact (store_yes w b g bs sp m q k v hn hq).mono fun e w' => any_write
theorem fill_any (w : World) (b g : Nat) (bs sp : List UInt8) (m : MemAt 60 5 w b g bs sp) (o n : Int) (u : UInt8) :
    Calls Try.prog 29 #[.pointer (some ⟨b, 0, none⟩), .int .i64 o, .int .i64 n, .int .u8 (u.toNat : Int)] w fun e w' => AnyPost w b g e w' := by
  cases hi : insideB bs.length o n
  · exact (fill_no w b g bs sp m o n _ hi).mono fun e w' => any_same m
  · obtain ⟨q, k, rfl, rfl, hq⟩ := insideB_nat hi
    exact (fill_yes w b g bs sp m q k hq u).mono fun e w' => any_write
theorem copy_any (w : World) (b g : Nat) (bs sp : List UInt8) (m : MemAt 60 5 w b g bs sp) (d s n : Int) :
    Calls Try.prog 30 #[.pointer (some ⟨b, 0, none⟩), .int .i64 d, .int .i64 s, .int .i64 n] w fun e w' => AnyPost w b g e w' := by
  cases hi : insideB bs.length d n && insideB bs.length s n
  · exact (copy_no w b g bs sp m d s n hi).mono fun e w' => any_same m
  · rw [Bool.and_eq_true] at hi
    obtain ⟨q, k, rfl, rfl, hq⟩ := insideB_nat hi.1
    obtain ⟨r, k', rfl, hk, hr⟩ := insideB_nat hi.2
    have : k' = k := by omega
    subst this
    exact (copy_yes w b g bs sp m q r k' hq hr).mono fun e w' => any_write
theorem write_any (w : World) (b g gl cl : Nat) (bs sp : List UInt8) (xs : List (List UInt8)) (m : MemAt 60 5 w b g bs sp) (o : Int) (hx : xs.length ≤ 140737488355328) (ps : PartsAt w g gl xs) :
    Calls Try.prog 8 #[.pointer (some ⟨b, 0, none⟩), .int .i64 o, .slice (some ⟨gl, 0, none⟩) xs.length cl] w fun e w' => AnyPost w b g e w' := by
  cases h0 : insideB bs.length o 0
  · exact (write_out w b g bs sp m o _ h0).mono fun e w' => any_same m
  · obtain ⟨q, n, rfl, hn, hq⟩ := insideB_nat h0
    by_cases h1 : q + (catAll xs).length ≤ bs.length
    · exact (write_yes w b g gl cl bs sp xs m q hx ps h1).mono fun e w' => any_write
    · exact (write_no w b g gl cl bs sp xs m q (by omega) hx ps (by omega)).mono fun e w' => any_same m

/-- The book: pages that no call may change. -/
structure Bk (B : Nat) (w : World) (g : Nat) (bv : Value) (ps : List Pg) : Prop where
  own : w.ownsRow B 70 5 bv ps.length (bookCells ps)
  ok : ∀ p ∈ ps, p.ok w
  apart : ∀ p ∈ ps, p.h ≠ g ∧ p.a1 ≠ g ∧ p.a2 ≠ g ∧ p.a3 ≠ g
/-- The blocks of a page are rows of bytes. -/
theorem Pg.rows {p : Pg} {w : World} (h : p.ok w) {k : Nat} (hk : k = p.h ∨ k = p.a1 ∨ k = p.a2 ∨ k = p.a3) : ∃ c f, w.heap[k]? = some (.cells c 5 f) := by
  obtain ⟨_, ⟨f0, p0⟩, ⟨y1, f1, p1⟩, ⟨y2, f2, p2⟩, ⟨y3, f3, p3⟩⟩ := h
  rcases hk with rfl | rfl | rfl | rfl
  · exact ⟨_, _, p0⟩
  · exact ⟨_, _, p1⟩
  · exact ⟨_, _, p2⟩
  · exact ⟨_, _, p3⟩
/-- What keeps all but the memory's two blocks keeps the book. -/
theorem Bk.keeps {B : Nat} {w w' : World} {b g g' : Nat} {bv : Value} {ps : List Pg} {bs sp : List UInt8} (K : Bk B w g bv ps) (m : MemAt 60 5 w b g bs sp) (k : Keeps w w' (fun k => k = b ∨ k = g)) (hg : g' = g ∨ w.heap.size ≤ g') : Bk B w' g' bv ps := by
  have hnb : ∀ p ∈ ps, ∀ k, (k = p.h ∨ k = p.a1 ∨ k = p.a2 ∨ k = p.a3) → k ≠ b ∧ k < w.heap.size := fun p hp k hk => by
    obtain ⟨c, f, e⟩ := Pg.rows (K.ok p hp) hk
    refine ⟨fun e2 => ?_, heap_lt e⟩
    subst e2
    rw [m.hb] at e
    injection e with e
    injection e with _ e
    exact absurd e (by decide)
  refine ⟨ownsRow_keeps K.own k (fun x hx => ?_), fun p hp => ?_, fun p hp => ?_⟩
  · obtain ⟨_, cur, hc⟩ := ownsRow_block K.own hx
    rintro (e | e)
    · subst e
      rw [m.hb] at hc
      injection hc with hc
      injection hc with _ hc
      exact absurd hc (by decide)
    · subst e
      rw [m.hg] at hc
      injection hc with hc
      injection hc with _ hc
      exact absurd hc (by decide)
  · have ha := K.apart p hp
    have h0 := hnb p hp _ (Or.inl rfl)
    have h1 := hnb p hp _ (Or.inr (Or.inl rfl))
    have h2 := hnb p hp _ (Or.inr (Or.inr (Or.inl rfl)))
    have h3 := hnb p hp _ (Or.inr (Or.inr (Or.inr rfl)))
    exact Pg.ok_keeps (K.ok p hp) k (by rintro (e | e) <;> omega) (by rintro (e | e) <;> omega) (by rintro (e | e) <;> omega) (by rintro (e | e) <;> omega)
  · have ha := K.apart p hp
    have h0 := hnb p hp _ (Or.inl rfl)
    have h1 := hnb p hp _ (Or.inr (Or.inl rfl))
    have h2 := hnb p hp _ (Or.inr (Or.inr (Or.inl rfl)))
    have h3 := hnb p hp _ (Or.inr (Or.inr (Or.inr rfl)))
    rcases hg with hg | hg <;> omega
theorem Bk.keepsNone {B : Nat} {w w' : World} {g : Nat} {bv : Value} {ps : List Pg} (K : Bk B w g bv ps) (k : Keeps w w' (fun _ => False)) : Bk B w' g bv ps :=
  ⟨ownsRow_keeps K.own k (fun _ _ => id), fun p hp => Pg.ok_keeps (K.ok p hp) k id id id id, K.apart⟩

theorem Try.infoPage : (Try.prog.info? 70).map (fun i => (i.zero, i.size, i.bytes)) = some (some (.agg #[.slice none 0 0, .slice none 0 0, .slice none 0 0, .slice none 0 0, .int .u8 0]), 5, 104) := by kernel_rfl

/-- A page is appended to the book. -/
theorem book_append {B : Nat} {w : World} {b g : Nat} {bv : Value} {ps : List Pg} {bs sp : List UInt8} (K : Bk B w g bv ps) (m : MemAt 60 5 w b g bs sp) (p : Pg) (hp : p.ok w) (hg : p.h ≠ g ∧ p.a1 ≠ g ∧ p.a2 ≠ g ∧ p.a3 ≠ g) (hn : ps.length ≤ 1099511627) (hB : B ≤ w.heap.size) :
    ∃ w' g2 c2, (∀ ty, (Builtin.append_ #[42, 42] ty #[bv, .slice (some ⟨w.heap.size, 0, none⟩) 1 1]).run Try.prog (w.alloc (.cells (pageVal p.n p.u p.h p.a1 p.a2 p.a3 p.c1 p.c2 p.c3) 70)) = .ok (.slice (some ⟨g2, 0, none⟩) (ps.length + 1) c2) w') ∧
      MemAt 60 5 w' b g bs sp ∧ Bk B w' g (.slice (some ⟨g2, 0, none⟩) (ps.length + 1) c2) (ps ++ [p]) ∧ Keeps w w' (fun k => bv.ownBlock = some k) ∧ (∀ k, bv.ownBlock = some k → B ≤ k) := by
  obtain ⟨i, hi1, hi2, hi3, hi4⟩ := info_parts Try.infoPage
  have k0 : Keeps w (w.alloc (.cells (pageVal p.n p.u p.h p.a1 p.a2 p.a3 p.c1 p.c2 p.c3) 70)) (fun _ => False) := (Keeps.refl _ _).alloc _
  have hnew := heap_alloc_new w (.cells (pageVal p.n p.u p.h p.a1 p.a2 p.a3 p.c1 p.c2 p.c3) 70)
  obtain ⟨g2, c2, w', hr, h2, h3, h4, _⟩ := run_append_lies (P := Try.prog) (w.alloc (.cells (pageVal p.n p.u p.h p.a1 p.a2 p.a3 p.c1 p.c2 p.c3) 70)) 42 0 B 70 i (.agg #[.slice none 0 0, .slice none 0 0, .slice none 0 0, .slice none 0 0, .int .u8 0]) 5 104 Try.underlying42 hi1 hi2 hi3 hi4 rfl (by omega)
    bv ps.length (bookCells ps) (ownsRow_keeps K.own k0 (fun _ _ => id)) ⟨w.heap.size, 0, none⟩ 1 1 p.cells (Pg.cells_length p)
    (fun j x hj => by
      rw [addr_add, Nat.zero_add]
      simp only [World.cell?, hnew]
      simpa [Pg.cells] using hj)
    (fun x hx => by
      simp only [Pg.cells, pageVal, List.mem_cons, List.not_mem_nil, or_false] at hx
      rcases hx with rfl | rfl | rfl | rfl | rfl <;> rfl) (by omega) (by unfold maxLen; omega) (by omega) (by have := k0.size; omega) _ rfl
  have k1 := Keeps.ofGrown h3
  have k2 : Keeps w w' (fun k => bv.ownBlock = some k) := (k0.mono (fun _ _ x => x.elim)).trans k1 (fun _ _ x => x)
  have hrow : ∀ k c f, w.heap[k]? = some (.cells c 5 f) → ¬ bv.ownBlock = some k := fun k c f e e2 => by
    obtain ⟨_, cur, hc⟩ := ownsRow_block K.own e2
    rw [hc] at e
    injection e with e
    injection e with _ e
    exact absurd e (by decide)
  have hmem : ¬ bv.ownBlock = some b := fun e2 => by
    obtain ⟨_, cur, hc⟩ := ownsRow_block K.own e2
    rw [m.hb] at hc
    injection hc with hc
    injection hc with _ hc
    exact absurd hc (by decide)
  have okk : ∀ q : Pg, q.ok w → q.ok w' := fun q hq => by
    obtain ⟨c0, f0, r0⟩ := Pg.rows hq (Or.inl rfl)
    obtain ⟨c1, f1, r1⟩ := Pg.rows hq (Or.inr (Or.inl rfl))
    obtain ⟨c2, f2, r2⟩ := Pg.rows hq (Or.inr (Or.inr (Or.inl rfl)))
    obtain ⟨c3, f3, r3⟩ := Pg.rows hq (Or.inr (Or.inr (Or.inr rfl)))
    exact Pg.ok_keeps hq k2 (hrow _ _ _ r0) (hrow _ _ _ r1) (hrow _ _ _ r2) (hrow _ _ _ r3)
  refine ⟨w', g2, c2, fun ty => hr, m.keeps k2 hmem (hrow _ _ _ m.hg), ⟨?_, fun q hq => ?_, fun q hq => ?_⟩, k2, fun k e => (ownsRow_block K.own e).1⟩
  · have e : bookCells (ps ++ [p]) = bookCells ps ++ p.cells := by simp [bookCells]
    rw [e]
    simpa using h2
  · rcases List.mem_append.1 hq with hq | hq
    · exact okk q (K.ok q hq)
    · have : q = p := by simpa using hq
      subst this
      exact okk q hp
  · rcases List.mem_append.1 hq with hq | hq
    · exact K.apart q hq
    · have : q = p := by simpa using hq
      subst this
      exact hg
end Go.Proofs.Ytlgmpnaalifegab
