import Derived.Great.BuildSlice
import Derived.Laws.Bits64
import Derived.Test.YtdnkjbbpfhegdaaGreatMg4
namespace Go.Proofs.YtdnkjbbpfhegdaaGreat
open Go.RowKit Go.Shelf

/-- make of n ints. -/
theorem run_make_ints {P : Program} (w : World) (t : TypeId) (hu : P.underlying t = some (.slice 3)) (hi : (P.info? 3).map (fun i => (i.zero, i.size, i.bytes)) = some (some (.int .i64 0), 1, 8)) (n : Nat) (hn : n ≤ 134217728) :
    (Instr.makeSlice t (.int .i64 (n : Int)) (.int .i64 (n : Int))).run P w = .ok (.slice (some ⟨w.heap.size, 0, none⟩) n n) (w.alloc (.cells (offRow n []) 3)) := by
  obtain ⟨i, h1, h2, h3, h4⟩ := info_parts hi
  have h := run_make (P := P) w t 3 i (.int .i64 0) hu h1 h2 .i64 .i64 (n : Int) (n : Int) (by omega) (by omega) (by rw [h4]; omega) (by omega)
  rw [h, h3]
  simp only [Int.toNat_natCast, offRow_zero]

theorem allOne_fits_zero {d : AD} {zs : List Int} (ha : allOne zs) (hf : fitsIn ((d.limit : Int) - (d.used : Int)) zs = true) : refE d zs = 0 := by
  unfold refE
  rw [if_pos ha, if_pos hf]

/-- Behind k of them. -/
def AllRel (T : AD → Nat → Nat × AD) (w : World) (p : Nat) (F : Nat → Prop) (d : AD) (zs : List Int) (H k : Nat) (wr : World) : Prop :=
  wr.heap[H]? = some (.cells (offRow zs.length (takeAll T d (zs.take k)).1) 3) ∧ Arena wr p (fun x => (F x ∨ w.heap.size ≤ x) ∧ x ≠ H) (takeAll T d (zs.take k)).2 ∧ Keeps w wr F
theorem AllRel.step {T : AD → Nat → Nat × AD} {w wr w2 : World} {p : Nat} {F : Nat → Prop} {d : AD} {zs : List Int} {H k : Nat} (hR : AllRel T w p F d zs H k wr) (hH : w.heap.size ≤ H) (hk : k < zs.length)
    (ht : Turned wr w2 p (fun x => (F x ∨ w.heap.size ≤ x) ∧ x ≠ H) (T (takeAll T d (zs.take k)).2 (classI zs[k]).toNat).2) :
    w2.cell? ⟨H, k, none⟩ = some (.int .i64 0) ∧ w2.frozen? ⟨H, k, none⟩ = false ∧ AllRel T w p F d zs H (k + 1) (w2.setCell ⟨H, k, none⟩ (.int .i64 ((T (takeAll T d (zs.take k)).2 (classI zs[k]).toNat).1 : Int))) := by
  obtain ⟨r1, r2, r3⟩ := hR
  obtain ⟨a2, k2⟩ := ht
  have hHlt := heap_lt r1
  have r1' := (k2.block H hHlt (fun e => e.2 rfl)).trans r1
  have hlen : (takeAll T d (zs.take k)).1.length = k := by rw [takeAll_length, List.length_take]; omega
  have hz : (offRow zs.length (takeAll T d (zs.take k)).1)[k]? = some (.int .i64 0) := by
    obtain ⟨m, hm⟩ : ∃ m, zs.length - k = m + 1 := ⟨zs.length - k - 1, by omega⟩
    simp [offRow, hlen, hm, List.replicate_succ, cellI]
  refine ⟨by simp only [World.cell?, r1']; simpa using hz, by simp [World.frozen?, r1'], ?_, ?_, ?_⟩
  · rw [List.take_succ_eq_append_getElem hk, takeAll_snoc]
    have hs := setCell_eq_setRow w2 H k _ 3 (0, 0) (.int .i64 ((T (takeAll T d (zs.take k)).2 (classI zs[k]).toNat).1 : Int)) r1'
    rw [hs, heap_setRow_same r1']
    have := offRow_set (n := zs.length) (xs := (takeAll T d (zs.take k)).1) ((T (takeAll T d (zs.take k)).2 (classI zs[k]).toNat).1 : Int) (by omega)
    rw [hlen] at this
    rw [← this]
    rfl
  · rw [List.take_succ_eq_append_getElem hk, takeAll_snoc]
    have kS : Keeps w2 (w2.setCell ⟨H, k, none⟩ (.int .i64 ((T (takeAll T d (zs.take k)).2 (classI zs[k]).toNat).1 : Int))) (fun x => x = H) := (Keeps.refl w2 (fun x => x = H)).setCell ⟨H, k, none⟩ (fun _ => rfl) _
    have a3 := a2.keeps kS (fun i _ hi e => by
      rcases hi with hi | hi
      · exact hi.2 e
      · omega)
    refine a3.mono (fun i _ hi => ?_)
    rcases hi with hi | hi
    · exact hi
    · exact ⟨Or.inr (by have := r3.size; omega), by omega⟩
  · have kS : Keeps w2 (w2.setCell ⟨H, k, none⟩ (.int .i64 ((T (takeAll T d (zs.take k)).2 (classI zs[k]).toNat).1 : Int))) (fun x => x = H) := (Keeps.refl w2 (fun x => x = H)).setCell ⟨H, k, none⟩ (fun _ => rfl) _
    exact (r3.trans k2 (fun i hi e => by
      rcases e.1 with e1 | e1
      · exact e1
      · omega)).trans kS (fun i hi e => by omega)

set_option maxHeartbeats 2000000 in
theorem allocAll_some {T : AD → Nat → Nat × AD} {G : AD → Prop} (hT : TakeOK T G) {w : World} {p : Nat} {F : Nat → Prop} {d : AD} (h : Arena w p F d) (hG : G d) (hF : d.Fine) (b o cap : Nat) (zs : List Int) (hz : ∀ j (h : j < zs.length), w.cell? ⟨b, o + j, none⟩ = some (.int .i64 zs[j]))
    (hb : ¬ F b) (hbl : b < w.heap.size) (h0 : 0 < zs.length) (ha : Hid (allOne zs)) (hf : Hid (fitsIn ((d.limit : Int) - (d.used : Int)) zs = true)) :
    Calls Tryz.prog 48 #[.pointer (some ⟨p, 0, none⟩), .slice (some ⟨b, o, none⟩) zs.length cap] w fun e w' => AllPost w p F (takeAll T d zs).1 (takeAll T d zs).2 e w' := by
  have hlen := fitsIn_len zs _ hf.out ha.out (by have := hF.use; omega)
  have hlim := hF.lim
  have hbig : zs.length ≤ 134217728 := by omega
  have hR : Calls Tryz.prog 74 #[.pointer (some ⟨p, 0, none⟩), .slice (some ⟨b, o, none⟩) zs.length cap] w fun e w' => RefPost w 0 e w' := by
    obtain ⟨c, hc, _⟩ := h
    have := refused_any hc hF (some ⟨b, o, none⟩) cap zs (by omega) (fun j hj => ⟨b, o, rfl, hz j hj⟩)
    rwa [allOne_fits_zero ha.out hf.out] at this
  go_enter Tryz.func48, Tryz.ntmps48
  go_wp2_with fail
  refine hR.mono ?_
  rintro e w1 ⟨rfl, k1⟩
  clear hR
  have hmk := run_make_ints (P := Tryz.prog) w1 76 Tryz.underlying76 Tryz.infoI zs.length hbig
  have hrel0 : AllRel T w p F d zs w1.heap.size 0 (w1.alloc (.cells (offRow zs.length []) 3)) := by
    refine ⟨heap_alloc_new _ _, ?_, (k1.mono (fun _ _ e => e.elim)).alloc _⟩
    have k2 : Keeps w (w1.alloc (.cells (offRow zs.length []) 3)) (fun _ => False) := k1.alloc _
    have hs1 := k1.size
    exact (h.mono (G := fun x => (F x ∨ w.heap.size ≤ x) ∧ x ≠ w1.heap.size) (fun i hi hFi => ⟨Or.inl hFi, by omega⟩)).keeps k2 (fun _ _ _ e => e)
  have hH := k1.size
  go_wp2_with fail
  go_loopw [21] (fun i wr => ∃ k : Nat, i = .int .i64 (k : Int) ∧ k ≤ zs.length ∧ AllRel T w p F d zs w1.heap.size k wr) (fun i _ => zs.length - (intOf i).toNat)
  case atStart => exact ⟨0, rfl, Nat.zero_le _, hrel0⟩
  case round =>
    obtain ⟨k, rfl, hk, hR⟩ := hrel
    clear hrel0 hmk
    by_cases hlt : k < zs.length
    · have hlt' : (k : Int) < (zs.length : Int) := by omega
      have hck := (World.cell?_of_block (w := w) (a := ⟨b, o + k, none⟩) (hR.2.2.block b hbl hb)).trans (hz k hlt)
      obtain ⟨n1, n2, n3, n4⟩ := takeAll_next hT hG hF ha.out hf.out hlt
      obtain ⟨f1, f2, f3, f4⟩ := takeAll_take hT hG hF ha.out hf.out k hk
      have hfin := (hT.fine _ f2 f1 n1 n2 n3).2.2.2.2
      have hTk := hT.call (w := wr) (p := p) (F := fun x => (F x ∨ w.heap.size ≤ x) ∧ x ≠ w1.heap.size) (classI zs[k]).toNat f2 f1 hR.2.1 n1 n2 n3
      have hst := fun w2 => hR.step (w2 := w2) hH hlt
      have hcl := class_any zs[k] wr
      rw [n4] at hcl
      clear hz n4 f1 f2 f3 f4 n3 ha hf
      generalize (classI zs[k]).toNat = cz at *
      generalize zs[k]'hlt = z at *
      go_wp2_with fail
      refine hcl.mono ?_
      rintro e w2 ⟨rfl, rfl⟩
      clear hcl
      go_wp2_with fail
      refine hTk.mono ?_
      rintro e w3 ⟨rfl, ht⟩
      clear hTk
      obtain ⟨s1, s2, s3⟩ := hst w3 ht
      clear hst ht hR hck
      generalize (T (takeAll T d (zs.take k)).2 cz).1 = off at *
      go_wp2_with fail
      go_roundw
      case rel => exact ⟨k + 1, by go_num, by omega, s3⟩
      case measure => simp [intOf]; omega
    · have hlt' : ¬ (k : Int) < (zs.length : Int) := by omega
      have hfin : AllPost w p F (takeAll T d zs).1 (takeAll T d zs).2 (.returned (.tuple #[.slice (some ⟨w1.heap.size, 0, none⟩) zs.length zs.length, .int .i64 0])) wr := by
        obtain ⟨r1, r2, r3⟩ := hR
        have hkz : zs.take k = zs := List.take_of_length_le (by omega)
        rw [hkz] at r1 r2
        refine ⟨w1.heap.size, hH, by rw [takeAll_length], ?_, r2, r3⟩
        rw [r1]
        have := offRow_full (takeAll T d zs).1
        rw [takeAll_length] at this
        rw [this]
      clear hR hz
      go_wp2_with fail
      go_ret2
      exact hfin
end Go.Proofs.YtdnkjbbpfhegdaaGreat
namespace Go.Proofs.YtdnkjbbpfhegdaaGreat
open Go.RowKit Go.Shelf

set_option maxHeartbeats 400000 in
theorem anew_no (n : Int) (w : World) (h : n < 0 ∨ 2097152 < n) :
    Calls Tryz.prog 19 #[.int .i64 n] w fun e w' => e = .returned (.tuple #[.pointer none, .int .i64 20]) ∧ w' = w := by
  rcases h with h | h
  · go_enter Tryz.func19, Tryz.ntmps19
    go_wp2
    go_ret2
    exact ⟨rfl, rfl⟩
  · have h0 : ¬ n < 0 := by omega
    go_enter Tryz.func19, Tryz.ntmps19
    go_wp2
    go_ret2
    exact ⟨rfl, rfl⟩

/-- An arena without blocks. -/
def AD.fresh (limit : Nat) : AD := { limit := limit, used := 0, bs := zeros 16, L := [], lv := fun _ => none, fm := fun _ => none }
theorem AD.fresh_fine {limit : Nat} (h : limit ≤ 2097152) : (AD.fresh limit).Fine :=
  { tiles := by simp [AD.fresh, Tiles, zeros_length]
    live := fun x s hs => by simp [AD.fresh] at hs
    most := by simp [AD.fresh, zeros_length]
    lim := h
    use := Nat.zero_le _
    sum := rfl
    free := ⟨fun _ _ h => (nomatch h), fun _ _ h => (nomatch h), fun _ _ h => (nomatch h), fun _ h => (nomatch h)⟩ }
def ANewPost (w : World) (limit : Nat) (e : Ending) (w' : World) : Prop :=
  ∃ p, e = .returned (.tuple #[.pointer (some ⟨p, 0, none⟩), .int .i64 0]) ∧ Arena w' p (fun k => w.heap.size ≤ k) (AD.fresh limit) ∧ Keeps w w' (fun _ => False)

set_option maxHeartbeats 1000000 in
theorem anew_yes (n : Nat) (w : World) (h : n ≤ 2097152) :
    Calls Tryz.prog 19 #[.int .i64 (n : Int)] w fun e w' => ANewPost w n e w' := by
  have h0 : ¬ (n : Int) < 0 := by omega
  have h1 : ¬ (2097152 : Int) < (n : Int) := by omega
  have hnew := new_yes 16 w (by omega)
  have hmm := @run_makeMap Tryz.prog
  go_enter Tryz.func19, Tryz.ntmps19
  go_wp2_with fail
  refine hnew.mono ?_
  rintro e w1 ⟨b, g, hb, hg, rfl, m, k⟩
  clear hnew
  have hfin : ANewPost w n (.returned (.tuple #[.pointer (some ⟨w1.heap.size + 1 + 1, 0, none⟩), .int .i64 0])) (((w1.alloc (.map #[] 0)).alloc (.map #[] 0)).alloc (.cells #[.int .i64 (n : Int), .int .i64 0, .pointer (some ⟨b, 0, none⟩), .slice none 0 0, .map (some w1.heap.size), .map (some (w1.heap.size + 1))] 80)) := by
    have k1 : Keeps w1 (w1.alloc (.map #[] 0)) (fun _ => False) := (Keeps.refl _ _).alloc _
    have k2 : Keeps (w1.alloc (.map #[] 0)) ((w1.alloc (.map #[] 0)).alloc (.map #[] 0)) (fun _ => False) := (Keeps.refl _ _).alloc _
    have k3 : Keeps ((w1.alloc (.map #[] 0)).alloc (.map #[] 0)) (((w1.alloc (.map #[] 0)).alloc (.map #[] 0)).alloc (.cells #[.int .i64 (n : Int), .int .i64 0, .pointer (some ⟨b, 0, none⟩), .slice none 0 0, .map (some w1.heap.size), .map (some (w1.heap.size + 1))] 80)) (fun _ => False) := (Keeps.refl _ _).alloc _
    have e1 : (w1.alloc (.map #[] 0)).heap.size = w1.heap.size + 1 := by simp
    have e2 : ((w1.alloc (.map #[] 0)).alloc (.map #[] 0)).heap.size = w1.heap.size + 1 + 1 := by simp
    have K := ((k.trans k1 (fun _ _ e => e)).trans k2 (fun _ _ e => e)).trans k3 (fun _ _ e => e)
    have hs := k.size
    have m1 := MapTo.made (c := cInt) Tryz.prog w1
    have m2 := MapTo.made (c := cPtr) Tryz.prog (w1.alloc (.map #[] 0))
    rw [e1] at m2
    refine ⟨w1.heap.size + 1 + 1, rfl, ⟨{ b := b, g := g, bl := w1.heap.size, bf := w1.heap.size + 1, v := .slice none 0 0, sp := [], nl := 0, nf := 0, hb := fun _ => none, fv := fun _ => .slice none 0 0 }, ⟨?_, ?_, ?_, ?_, ?_, by simp, ⟨fun _ => rfl, fun _ _ _ e => (nomatch e), fun _ _ _ e => (nomatch e), fun _ _ _ _ _ e => (nomatch e)⟩⟩, ?_⟩, K⟩
    · have := heap_alloc_new ((w1.alloc (.map #[] 0)).alloc (.map #[] 0)) (.cells #[.int .i64 (n : Int), .int .i64 0, .pointer (some ⟨b, 0, none⟩), .slice none 0 0, .map (some w1.heap.size), .map (some (w1.heap.size + 1))] 80)
      rw [e2] at this
      exact this
    · exact ((m.keeps k1 id id).keeps k2 id id).keeps k3 id id
    · exact World.ownsRow_nil _ _ _ _
    · exact (m1.keeps k2 id).keeps k3 id
    · exact m2.keeps k3 id
    · intro x hx
      rcases hx with rfl | rfl | rfl | rfl | rfl | e | ⟨_, _, e, _⟩
      · omega
      · exact hb
      · exact hg
      · exact hs
      · show w.heap.size ≤ w1.heap.size + 1
        omega
      · cases e
      · cases e
  clear k m hb hg
  go_wp2_with fail
  go_ret2
  exact hfin
end Go.Proofs.YtdnkjbbpfhegdaaGreat
namespace Go.Proofs.YtdnkjbbpfhegdaaGreat
open Go.RowKit Go.Shelf

/-- While nothing was freed. -/
def newT (d : AD) (c : Nat) : Nat × AD := (d.bs.length, d.took c)
def newG (d : AD) : Prop := (∀ x, d.fm x = none) ∧ d.bs.length = 16 + d.used
theorem newG_fresh (limit : Nat) : newG (AD.fresh limit) := ⟨fun _ => rfl, by simp [AD.fresh, zeros_length]⟩
theorem newOK : TakeOK newT newG where
  call := fun {w p F d} c hG hF h _ _ h3 => by
    have := hF.lim
    have := hG.2
    exact take_new h hF c (by omega) (hG.1 _)
  fine := fun {d} c hG hF h1 _ h3 => by
    have h1 := (show ∀ c ∈ classList, 16 ≤ c by decide) c h1
    have := hF.lim
    have h4 := hG.2
    refine ⟨hF.took (by omega) (by omega) h3, ⟨hG.1, ?_⟩, rfl, rfl, by simp [newT]; omega⟩
    show (d.bs ++ zeros c).length = 16 + (d.used + c)
    rw [List.length_append, zeros_length]
    omega

def AllocPost (w : World) (p : Nat) (F : Nat → Prop) (o : Nat) (d' : AD) (e : Ending) (w' : World) : Prop := e = .returned (.tuple #[.int .i64 (o : Int), .int .i64 0]) ∧ Turned w w' p F d'

set_option maxHeartbeats 1000000 in
theorem alloc_yes {T : AD → Nat → Nat × AD} {G : AD → Prop} (hT : TakeOK T G) {w : World} {p : Nat} {F : Nat → Prop} {d : AD} (h : Arena w p F d) (hFl : ∀ k, F k → k < w.heap.size) (hG : G d) (hF : d.Fine) (n : Nat) (h1 : 1 ≤ n) (h2 : n ≤ 1048576) (h3 : d.used + classN n ≤ d.limit) :
    Calls Tryz.prog 20 #[.pointer (some ⟨p, 0, none⟩), .int .i64 (n : Int)] w fun e w' => AllocPost w p F (T d (classN n)).1 (T d (classN n)).2 e w' := by
  have hcn : classI (n : Int) = (classN n : Int) := by unfold classI; rw [if_pos (by omega)]; simp
  have hcl := class_le n h1 h2
  have hA : Calls Tryz.prog 48 #[.pointer (some ⟨p, 0, none⟩), .slice (some ⟨w.heap.size, 0, none⟩) 1 1] (w.alloc (.cells #[.int .i64 (n : Int)] 3)) fun e w' => AllPost (w.alloc (.cells #[.int .i64 (n : Int)] 3)) p F [((T d (classN n)).1 : Int)] (T d (classN n)).2 e w' := by
    have k0 : Keeps w (w.alloc (.cells #[.int .i64 (n : Int)] 3)) (fun _ => False) := (Keeps.refl _ _).alloc _
    have := allocAll_some hT (h.keeps k0 (fun _ _ _ e => e)) hG hF w.heap.size 0 1 [(n : Int)] (fun j hj => by
      have hj0 : j = 0 := by simpa using hj
      subst hj0
      simp only [World.cell?, heap_alloc_new]
      simp) (fun e => by have := hFl _ e; omega) (by simp) (by simp) (fun z hz => by simp at hz; omega) (by
      simp only [fitsIn]
      rw [if_neg (by rw [hcn]; omega)]
      rfl)
    simpa [takeAll, hcn] using this
  have hoff := (hT.fine (classN n) hG hF (class_in n h1 h2) hcl.2.2.1 h3).2.2.2.2
  have hs0 : ∀ W' p' F' x d' e, AllPost (w.alloc (.cells #[.int .i64 (n : Int)] 3)) p' F' [x] d' e W' → ∃ hh, w.heap.size ≤ hh ∧ e = .returned (.tuple #[.slice (some ⟨hh, 0, none⟩) 1 1, .int .i64 0]) ∧ W'.cell? ⟨hh, 0, none⟩ = some (.int .i64 x) ∧ Turned w W' p' F' d' := by
    rintro W' p' F' x d' e ⟨hh, a1, a2, a3, a4, a5⟩
    have k0 : Keeps w (w.alloc (.cells #[.int .i64 (n : Int)] 3)) F' := (Keeps.refl _ _).alloc _
    refine ⟨hh, by simp at a1; omega, a2, ?_, a4.mono (fun i _ hi => ?_), k0.trans a5 (fun _ _ e => e)⟩
    · simp [World.cell?, a3, cellI]
    · rcases hi.1 with hi | hi
      · exact Or.inl hi
      · exact Or.inr (by simp at hi; omega)
  generalize (T d (classN n)).1 = off at *
  generalize (T d (classN n)).2 = d2 at *
  clear h hG hF hcl h3 hcn
  go_enter Tryz.func20, Tryz.ntmps20
  go_wp2_with fail
  refine hA.mono ?_
  intro e w2 hp2
  obtain ⟨hh, _, rfl, hc, ht⟩ := hs0 _ _ _ _ _ _ hp2
  clear hA hs0 hp2
  go_wp2_with fail
  go_ret2
  exact ⟨rfl, ht⟩
end Go.Proofs.YtdnkjbbpfhegdaaGreat
/-
  Plain laws on numbers of bytes, the lowest first.
-/
namespace Go.Proofs.YtdnkjbbpfhegdaaGreat
open Go.RowKit

/-- The number of the bytes, the lowest first. -/
def numOf : List UInt8 → Nat
  | [] => 0
  | x :: r => x.toNat + 256 * numOf r
theorem numOf_lt : ∀ l : List UInt8, numOf l < 256 ^ l.length
  | [] => by simp [numOf]
  | x :: r => by
    have h := numOf_lt r
    have hx := x.toNat_lt
    simp only [numOf, List.length_cons, Nat.pow_succ]
    omega
theorem numOf_snoc (l : List UInt8) (x : UInt8) : numOf (l ++ [x]) = numOf l + x.toNat * 256 ^ l.length := by
  induction l with
  | nil => simp [numOf]
  | cons y r ih =>
    simp only [List.cons_append, numOf, ih, List.length_cons, Nat.pow_succ, Nat.mul_add]
    have : 256 * (x.toNat * 256 ^ r.length) = x.toNat * (256 ^ r.length * 256) := by rw [Nat.mul_comm, Nat.mul_assoc]
    omega
theorem numOf_append (a b : List UInt8) : numOf (a ++ b) = numOf a + 256 ^ a.length * numOf b := by
  induction a with
  | nil => simp [numOf]
  | cons y r ih =>
    simp only [List.cons_append, numOf, ih, List.length_cons, Nat.pow_succ, Nat.mul_add]
    have : 256 * (256 ^ r.length * numOf b) = 256 ^ r.length * 256 * numOf b := by rw [← Nat.mul_assoc, Nat.mul_comm 256]
    omega
theorem pow_byte (k : Nat) : (2 : Nat) ^ (8 * k) = 256 ^ k := by rw [Nat.pow_mul]

theorem bits_or_nat (a b : Nat) (ha : a < 18446744073709551616) (hb : b < 18446744073709551616) : bits .or .u64 (a : Int) (b : Int) = ((a ||| b : Nat) : Int) := by
  have hx : a ||| b < 2 ^ 64 := Nat.or_lt_two_pow (by omega) (by omega)
  have h1 : (BitVec.ofInt 64 (a : Int)).toNat = a := by
    rw [BitVec.ofInt_natCast, BitVec.toNat_ofNat]
    exact Nat.mod_eq_of_lt (by omega)
  have h2 : (BitVec.ofInt 64 (b : Int)).toNat = b := by
    rw [BitVec.ofInt_natCast, BitVec.toNat_ofNat]
    exact Nat.mod_eq_of_lt (by omega)
  show IntKind.u64.wrap ((BitVec.ofInt 64 (a : Int) ||| BitVec.ofInt 64 (b : Int)).toNat : Int) = _
  rw [BitVec.toNat_or, h1, h2, IntKind.wrap_u64]
  omega
theorem or_step (N k : Nat) (x : UInt8) (hN : N < 256 ^ k) (hk : k < 8) : bits .or .u64 (N : Int) (IntKind.u64.wrap ((x.toNat : Int) * 2 ^ (8 * k))) = ((N + x.toNat * 256 ^ k : Nat) : Int) := by
  have hx := x.toNat_lt
  have hp : (256 : Nat) ^ k ≤ 256 ^ 7 := Nat.pow_le_pow_right (by omega) (by omega)
  have hm : x.toNat * 256 ^ k ≤ 255 * 256 ^ 7 := Nat.mul_le_mul (by omega) hp
  have e : ((x.toNat : Int) * 2 ^ (8 * k)) = ((x.toNat * 256 ^ k : Nat) : Int) := by
    rw [← pow_byte]
    simp
  rw [e, IntKind.wrap_u64]
  have e2 : ((x.toNat * 256 ^ k : Nat) : Int) % 18446744073709551616 = ((x.toNat * 256 ^ k : Nat) : Int) := by
    have : x.toNat * 256 ^ k < 18446744073709551616 := by omega
    omega
  rw [e2, bits_or_nat _ _ (by omega) (by omega)]
  congr 1
  have h := Nat.shiftLeft_add_eq_or_of_lt (i := 8 * k) (b := N) (by rw [pow_byte]; exact hN) x.toNat
  rw [Nat.shiftLeft_eq, pow_byte] at h
  rw [Nat.or_comm, ← h, Nat.add_comm]
end Go.Proofs.YtdnkjbbpfhegdaaGreat
namespace Go.Proofs.YtdnkjbbpfhegdaaGreat
open Go.RowKit

/-- A number may have 1, 2, 4 or 8 bytes. -/
def widthB (n : Int) : Bool := decide (n = 1 ∨ n = 2 ∨ n = 4 ∨ n = 8)
theorem widthB_true {n : Int} (h : widthB n = true) : n = 1 ∨ n = 2 ∨ n = 4 ∨ n = 8 := of_decide_eq_true h
theorem widthB_false {n : Int} (h : widthB n = false) : n ≠ 1 ∧ n ≠ 2 ∧ n ≠ 4 ∧ n ≠ 8 := by
  have := of_decide_eq_false h
  omega

set_option maxHeartbeats 400000 in
theorem number_width (w : World) (p : Value) (off n : Int) (h : widthB n = false) :
    Calls Tryz.prog 93 #[p, .int .i64 off, .int .i64 n] w fun e w' => e = .returned (.int .i64 10) ∧ w' = w := by
  obtain ⟨h1, h2, h3, h4⟩ := widthB_false h
  have b1 : (n != 1) = true := bne_iff_ne.2 h1
  have b2 : (n != 2) = true := bne_iff_ne.2 h2
  have b3 : (n != 4) = true := bne_iff_ne.2 h3
  have b4 : (n != 8) = true := bne_iff_ne.2 h4
  clear h h1 h2 h3 h4
  go_enter Tryz.func93, Tryz.ntmps93
  go_wp2_with fail
  go_ret
  exact ⟨rfl, rfl⟩

set_option maxHeartbeats 400000 in
theorem number_out (w : World) (b g : Nat) (bs sp : List UInt8) (m : MemAt 118 5 w b g bs sp) (off n : Int) (h : widthB n = true) (h2 : insideB bs.length off n = false) :
    Calls Tryz.prog 93 #[.pointer (some ⟨b, 0, none⟩), .int .i64 off, .int .i64 n] w fun e w' => e = .returned (.int .i64 11) ∧ w' = w := by
  have hin := inside_no w b g bs sp m off n h2
  clear h2 m
  rcases widthB_true h with rfl | rfl | rfl | rfl
  all_goals
    clear h
    go_enter Tryz.func93, Tryz.ntmps93
    go_wp2_with fail
    refine hin.mono ?_
    rintro e w' ⟨rfl, rfl⟩
    clear hin
    go_wp2_with fail
    go_ret
    exact ⟨rfl, rfl⟩

set_option maxHeartbeats 400000 in
theorem number_yes (w : World) (b g : Nat) (bs sp : List UInt8) (m : MemAt 118 5 w b g bs sp) (off n : Int) (h : widthB n = true) (h2 : insideB bs.length off n = true) :
    Calls Tryz.prog 93 #[.pointer (some ⟨b, 0, none⟩), .int .i64 off, .int .i64 n] w fun e w' => e = .returned (.int .i64 0) ∧ w' = w := by
  have hin := inside_yes w b g bs sp m off n h2
  clear h2 m
  rcases widthB_true h with rfl | rfl | rfl | rfl
  all_goals
    clear h
    go_enter Tryz.func93, Tryz.ntmps93
    go_wp2_with fail
    refine hin.mono ?_
    rintro e w' ⟨rfl, rfl⟩
    clear hin
    go_wp2_with fail
    go_ret
    exact ⟨rfl, rfl⟩

set_option maxHeartbeats 400000 in
theorem load_width (w : World) (p : Value) (off n : Int) (h : widthB n = false) :
    Calls Tryz.prog 69 #[p, .int .i64 off, .int .i64 n] w fun e w' => e = .returned (.tuple #[.int .u64 0, .int .i64 10]) ∧ w' = w := by
  go_enter Tryz.func69, Tryz.ntmps69
  go_wp2_with fail
  refine (number_width _ _ _ _ h).mono ?_
  rintro e w' ⟨rfl, rfl⟩
  go_wp2_with fail
  go_ret2
  exact ⟨rfl, rfl⟩

set_option maxHeartbeats 400000 in
theorem load_out (w : World) (b g : Nat) (bs sp : List UInt8) (m : MemAt 118 5 w b g bs sp) (off n : Int) (h : widthB n = true) (h2 : insideB bs.length off n = false) :
    Calls Tryz.prog 69 #[.pointer (some ⟨b, 0, none⟩), .int .i64 off, .int .i64 n] w fun e w' => e = .returned (.tuple #[.int .u64 0, .int .i64 11]) ∧ w' = w := by
  go_enter Tryz.func69, Tryz.ntmps69
  go_wp2_with fail
  refine (number_out _ b g bs sp m _ _ h h2).mono ?_
  rintro e w' ⟨rfl, rfl⟩
  go_wp2_with fail
  go_ret2
  exact ⟨rfl, rfl⟩

set_option maxHeartbeats 1000000 in
theorem load_yes (w : World) (b g : Nat) (bs sp : List UInt8) (m : MemAt 118 5 w b g bs sp) (o n : Nat) (h : widthB (n : Int) = true) (h2 : o + n ≤ bs.length) :
    Calls Tryz.prog 69 #[.pointer (some ⟨b, 0, none⟩), .int .i64 (o : Int), .int .i64 (n : Int)] w fun e w' => e = .returned (.tuple #[.int .u64 (numOf ((bs.drop o).take n) : Int), .int .i64 0]) ∧ w' = w := by
  have hl : bs.length + sp.length ≤ 134217728 := m.hmax
  have hnum := number_yes w b g bs sp m o n h (insideB_mk h2)
  have hs1 := span_any w b g bs sp m o n h2
  obtain ⟨q, hq, hv⟩ := spanVal_eq g (bs.length + sp.length) o n
  rw [hv] at hs1
  have hn8 : n ≤ 8 := by have := widthB_true h; omega
  have hcell := fun j hj => m.gcell j hj
  clear hv m
  go_enter Tryz.func69, Tryz.ntmps69
  go_wp2_with fail
  refine hnum.mono ?_
  rintro e w' ⟨rfl, rfl⟩
  clear hnum
  go_wp2_with fail
  refine hs1.mono ?_
  rintro e w' ⟨rfl, rfl⟩
  clear hs1
  go_wp2_with fail
  go_loop [9, 24] (fun v i => ∃ k : Nat, k ≤ n ∧ i = .int .i64 (k : Int) ∧ v = .int .u64 (numOf ((bs.drop o).take k) : Int)) (fun _ i => n - (intOf i).toNat)
  case atStart => exact ⟨0, Nat.zero_le _, rfl, rfl⟩
  case round =>
    obtain ⟨k, hk, rfl, rfl⟩ := hrel
    by_cases hlt : k < n
    · have hqo : q = o := by
        rcases hq with hq | ⟨_, hz⟩
        · exact hq
        · omega
      have hc := hcell (q + k) (by omega)
      clear hcell
      have hstep : numOf ((bs.drop o).take (k + 1)) = numOf ((bs.drop o).take k) + (bs[q + k]'(by omega)).toNat * 256 ^ k := by
        have hl1 : ((bs.drop o).take k).length = k := by simp; omega
        have ht : (bs.drop o).take (k + 1) = (bs.drop o).take k ++ [bs[q + k]'(by omega)] := by
          rw [List.take_succ_eq_append_getElem (by simp; omega)]
          simp [hqo]
        rw [ht, numOf_snoc, hl1]
      have hlt8 := numOf_lt ((bs.drop o).take k)
      rw [show ((bs.drop o).take k).length = k from by simp; omega] at hlt8
      have HS : Hid (numOf ((bs.drop o).take (k + 1)) = numOf ((bs.drop o).take k) + (bs[q + k]'(by omega)).toNat * 256 ^ k) := hstep
      clear hstep
      generalize bs[q + k]'(by omega) = x at *
      generalize hN : numOf ((bs.drop o).take k) = N at *
      have hor := or_step N k x hlt8 (by omega)
      have HO : Hid (bits .or .u64 (N : Int) (IntKind.u64.wrap ((x.toNat : Int) * 2 ^ (8 * k))) = ((N + x.toNat * 256 ^ k : Nat) : Int)) := hor
      have hx := x.toNat_lt
      clear hN hqo hq h hlt8 hor
      go_wp2
      go_round
      case rel => exact ⟨k + 1, by omega, by go_num, by rw [HO.out, HS.out]⟩
      case measure => simp [intOf]; omega
    · have hall : k = n := by omega
      subst hall
      go_wp2
      go_ret2
      exact ⟨rfl, rfl⟩
end Go.Proofs.YtdnkjbbpfhegdaaGreat
namespace Go.Proofs.YtdnkjbbpfhegdaaGreat
open Go.RowKit

/-- The low k bytes of v, the lowest first. -/
def lowB (v i : Nat) : UInt8 := UInt8.ofNat (v / 256 ^ i % 256)
def leBytes (v k : Nat) : List UInt8 := (List.range k).map (lowB v)
theorem leBytes_length (v k : Nat) : (leBytes v k).length = k := by simp [leBytes]
theorem leBytes_succ (v k : Nat) : leBytes v k ++ [lowB v k] = leBytes v (k + 1) := by simp [leBytes, List.range_succ]
theorem lowB_toNat (v i : Nat) : (lowB v i).toNat = v / 256 ^ i % 256 := by
  unfold lowB
  rw [UInt8.toNat_ofNat_of_lt' (show v / 256 ^ i % 256 < 256 by omega)]

theorem lowB_int (v k : Nat) : (v : Int) / 2 ^ (8 * k) % 256 = ((lowB v k).toNat : Int) := by
  rw [lowB_toNat, ← pow_byte]
  simp
theorem numOf_le (v n : Nat) : numOf (leBytes v n) = v % 256 ^ n := by
  induction n with
  | zero => simp [leBytes, numOf, Nat.mod_one]
  | succ n ih =>
    rw [← leBytes_succ, numOf_snoc, ih, leBytes_length, lowB_toNat, Nat.pow_succ, Nat.mod_mul, Nat.mul_comm]
theorem splice_take {bs : List UInt8} {o n : Nat} {x : List UInt8} (hx : x.length = n) (h : o + n ≤ bs.length) : ((splice bs o x).drop o).take n = x := by
  subst hx
  unfold splice
  have h1 : (bs.take o).length = o := by simp; omega
  rw [List.append_assoc, List.drop_append, List.drop_of_length_le (by omega), h1, Nat.sub_self, List.nil_append, List.drop_zero, List.take_left' rfl]

set_option maxHeartbeats 400000 in
theorem store_width (w : World) (p : Value) (off n : Int) (v : Int) (h : widthB n = false) :
    Calls Tryz.prog 92 #[p, .int .i64 off, .int .i64 n, .int .u64 v] w fun e w' => e = .returned (.int .i64 10) ∧ w' = w := by
  go_enter Tryz.func92, Tryz.ntmps92
  go_wp2_with fail
  refine (number_width _ _ _ _ h).mono ?_
  rintro e w' ⟨rfl, rfl⟩
  go_wp2_with fail
  go_ret
  exact ⟨rfl, rfl⟩

set_option maxHeartbeats 400000 in
theorem store_out (w : World) (b g : Nat) (bs sp : List UInt8) (m : MemAt 118 5 w b g bs sp) (off n : Int) (v : Int) (h : widthB n = true) (h2 : insideB bs.length off n = false) :
    Calls Tryz.prog 92 #[.pointer (some ⟨b, 0, none⟩), .int .i64 off, .int .i64 n, .int .u64 v] w fun e w' => e = .returned (.int .i64 11) ∧ w' = w := by
  go_enter Tryz.func92, Tryz.ntmps92
  go_wp2_with fail
  refine (number_out _ b g bs sp m _ _ h h2).mono ?_
  rintro e w' ⟨rfl, rfl⟩
  go_wp2_with fail
  go_ret
  exact ⟨rfl, rfl⟩

set_option maxHeartbeats 1000000 in
theorem store_yes (w : World) (b g : Nat) (bs sp : List UInt8) (m : MemAt 118 5 w b g bs sp) (o n v : Nat) (h : widthB (n : Int) = true) (h2 : o + n ≤ bs.length) :
    Calls Tryz.prog 92 #[.pointer (some ⟨b, 0, none⟩), .int .i64 (o : Int), .int .i64 (n : Int), .int .u64 (v : Int)] w fun e w' => WritePost w b g (splice bs o (leBytes v n)) sp e w' := by
  have hl : bs.length + sp.length ≤ 134217728 := m.hmax
  have hnum := number_yes w b g bs sp m o n h (insideB_mk h2)
  have hs1 := span_any w b g bs sp m o n h2
  obtain ⟨q, hq, hv⟩ := spanVal_eq g (bs.length + sp.length) o n
  rw [hv] at hs1
  have hn8 : n ≤ 8 := by have := widthB_true h; omega
  clear hv
  go_enter Tryz.func92, Tryz.ntmps92
  go_wp2_with fail
  refine hnum.mono ?_
  rintro e w' ⟨rfl, rfl⟩
  clear hnum
  go_wp2_with fail
  refine hs1.mono ?_
  rintro e w' ⟨rfl, rfl⟩
  clear hs1
  go_wp2_with fail
  go_loopw [25] (fun i wr => ∃ k : Nat, k ≤ n ∧ i = .int .i64 (k : Int) ∧ MemAt 118 5 wr b g (splice bs o (leBytes v k)) sp ∧ Keeps w' wr (fun i => i = g)) (fun i _ => n - (intOf i).toNat)
  case atStart => exact ⟨0, Nat.zero_le _, rfl, by rw [show leBytes v 0 = [] from rfl, splice_nil]; exact m, Keeps.refl _ _⟩
  case round =>
    obtain ⟨k, hk, rfl, mk, kk⟩ := hrel
    have hsl := leBytes_length v k
    by_cases hlt : k < n
    · have hqo : q = o := by
        rcases hq with hq | ⟨_, hz⟩
        · exact hq
        · omega
      have hlen : (splice bs o (leBytes v k)).length = bs.length := splice_length (by omega)
      obtain ⟨v0, hv0⟩ := mk.gcell_any (q + k) (by rw [hlen]; omega)
      have hfz := mk.gfrozen (q + k)
      have hst := mk.store (q + k) (by rw [hlen]; omega) (lowB v k)
      rw [show q + k = o + k from by omega, splice_set hsl (by omega), leBytes_succ, ← show q + k = o + k from by omega] at hst
      have K2 := kk.trans hst.2 (fun _ _ x => x)
      have M2 := hst.1
      rw [← lowB_int] at K2 M2
      clear hst mk kk hsl hlen hqo hq m h
      go_wp2
      go_roundw
      case rel => exact ⟨k + 1, by omega, by go_num, M2, K2⟩
      case measure => simp [intOf]; omega
    · have hall : k = n := by omega
      subst hall
      go_wp2
      go_ret
      exact ⟨rfl, mk, kk⟩
end Go.Proofs.YtdnkjbbpfhegdaaGreat
namespace Go.Proofs.YtdnkjbbpfhegdaaGreat
open Go.RowKit Go.Shelf

theorem hide {p : Prop} (h : p) : Hid p := h
/-- Other bytes. -/
def AD.bytes (d : AD) (bs : List UInt8) : AD := { d with bs := bs }
theorem AD.Fine.bytes {d : AD} (F : d.Fine) {bs : List UInt8} (h : bs.length = d.bs.length) : (d.bytes bs).Fine :=
  { tiles := by show Tiles 16 d.L bs.length; rw [h]; exact F.tiles
    live := F.live
    most := by show bs.length ≤ _; rw [h]; exact F.most
    lim := F.lim
    use := F.use
    sum := F.sum
    free := F.free }
theorem ArenaAt.wrote {w w' : World} {p : Nat} {c : AR} {d : AD} (h : ArenaAt w p c d) {bs : List UInt8} (m : MemAt 118 5 w' c.b c.g bs c.sp) (k : Keeps w w' (fun i => i = c.g)) : ArenaAt w' p c (d.bytes bs) :=
  ⟨(k.block p (heap_lt h.hp) h.p_g).trans h.hp, m, ownsRow_keeps h.beg k (fun _ hg e => h.g_v hg e.symm), h.live.keeps k h.bl_g, h.free.keeps k h.bf_g, h.hlf, h.heaps.keeps k (fun _ hi e => (h.heap_ne hi).2.2.1 e)⟩
/-- Nothing has turned. -/
theorem Arena.same {w w' : World} {p : Nat} {F : Nat → Prop} {d : AD} (h : Arena w p F d) (k : Keeps w w' (fun _ => False)) : Turned w w' p F d :=
  ⟨(h.keeps k (fun _ _ _ e => e)).mono (fun _ _ e => Or.inl e), k.mono (fun _ _ e => e.elim)⟩
theorem Arena.at {w : World} {p : Nat} {F : Nat → Prop} {d : AD} (h : Arena w p F d) : ∃ c, ArenaAt w p c d ∧ ∀ k, c.foot p k → F k := h

set_option maxHeartbeats 400000 in
theorem anum_width (w : World) (p : Value) (off n : Int) (h : widthB n = false) : Calls Tryz.prog 68 #[p, .int .i64 off, .int .i64 n] w fun e w' => e = .returned (.int .i64 10) ∧ Keeps w w' (fun _ => False) := by
  obtain ⟨h1, h2, h3, h4⟩ := widthB_false h
  have b1 : (n != 1) = true := bne_iff_ne.2 h1
  have b2 : (n != 2) = true := bne_iff_ne.2 h2
  have b3 : (n != 4) = true := bne_iff_ne.2 h3
  have b4 : (n != 8) = true := bne_iff_ne.2 h4
  clear h1 h2 h3 h4
  have K0 : Hid (Keeps w w (fun _ => False)) := Keeps.refl w (fun _ => False)
  go_enter Tryz.func68, Tryz.ntmps68
  go_wp2_with fail
  go_ret
  exact ⟨rfl, K0.out⟩
set_option maxHeartbeats 400000 in
theorem anum_good (w : World) (p : Value) (off n : Int) (t : Bool) (h : widthB n = true) (hg : Calls Tryz.prog 27 #[p, .int .i64 off, .int .i64 n] w fun e w' => BoolPost w t e w') :
    Calls Tryz.prog 68 #[p, .int .i64 off, .int .i64 n] w fun e w' => e = .returned (.int .i64 (if t then 0 else 24)) ∧ Keeps w w' (fun _ => False) := by
  rcases widthB_true h with h | h | h | h
  all_goals subst h
  all_goals go_enter Tryz.func68, Tryz.ntmps68
  all_goals go_wp2_with fail
  all_goals refine hg.mono ?_
  all_goals rintro e w1 ⟨rfl, k1⟩
  all_goals have K1 : Hid (Keeps w w1 (fun _ => False)) := k1
  all_goals clear hg k1
  all_goals cases t
  all_goals go_wp2_with fail
  all_goals go_ret
  all_goals exact ⟨rfl, K1.out⟩

/-- What Load answers. -/
def loadV (d : AD) (off n : Int) : Int × Int := if widthB n then (if d.goodB off n then ((numOf ((d.bs.drop off.toNat).take n.toNat) : Int), 0) else (0, 24)) else (0, 10)
def LoadPost (w : World) (v e0 : Int) (e : Ending) (w' : World) : Prop := e = .returned (.tuple #[.int .u64 v, .int .i64 e0]) ∧ Keeps w w' (fun _ => False)
set_option maxHeartbeats 1000000 in
theorem aload_any {w : World} {p : Nat} {c : AR} {d : AD} (h : ArenaAt w p c d) (hF : d.Fine) (off n : Int) (ho : fitsI off) (hn : fitsI n) :
    Calls Tryz.prog 41 #[.pointer (some ⟨p, 0, none⟩), .int .i64 off, .int .i64 n] w fun e w' => LoadPost w (loadV d off n).1 (loadV d off n).2 e w' := by
  unfold loadV
  cases hw : widthB n
  · have hN := anum_width w (.pointer (some ⟨p, 0, none⟩)) off n hw
    simp only [Bool.false_eq_true, if_false]
    clear h hF
    go_enter Tryz.func41, Tryz.ntmps41
    go_wp2_with fail
    refine hN.mono ?_
    rintro e w1 ⟨rfl, k1⟩
    have K1 : Hid (Keeps w w1 (fun _ => False)) := k1
    clear hN k1
    go_wp2_with fail
    go_ret2
    exact ⟨rfl, K1.out⟩
  · have hN := anum_good w _ off n _ hw (good_any h hF off n ho hn)
    cases hg : d.goodB off n
    · rw [hg] at hN
      simp only [Bool.false_eq_true, if_false, if_true] at hN ⊢
      clear h hF
      go_enter Tryz.func41, Tryz.ntmps41
      go_wp2_with fail
      refine hN.mono ?_
      rintro e w1 ⟨rfl, k1⟩
      have K1 : Hid (Keeps w w1 (fun _ => False)) := k1
      clear hN k1
      go_wp2_with fail
      go_ret2
      exact ⟨rfl, K1.out⟩
    · rw [hg] at hN
      obtain ⟨o, k, rfl, rfl, ho16, hok⟩ := hF.span hg
      simp only [if_true, Int.toNat_natCast] at hN ⊢
      have hld := fun W (kW : Keeps w W (fun _ => False)) => load_yes W c.b c.g d.bs c.sp (h.mem.keeps kW id id) o k hw hok
      have hc2 := fun W (kW : Keeps w W (fun _ => False)) => (h.keeps kW (fun _ _ e => e)).cell2
      have hnum := numOf_lt ((d.bs.drop o).take k)
      clear h hF hg
      go_enter Tryz.func41, Tryz.ntmps41
      go_wp2_with fail
      refine hN.mono ?_
      rintro e w1 ⟨rfl, k1⟩
      have K1 : Hid (Keeps w w1 (fun _ => False)) := k1
      replace hld := hld w1 k1
      replace hc2 := hc2 w1 k1
      clear hN k1
      go_wp2_with fail
      refine hld.mono ?_
      rintro e w2 ⟨rfl, rfl⟩
      clear hld
      go_wp2_with fail
      go_ret2
      exact ⟨rfl, K1.out⟩
end Go.Proofs.YtdnkjbbpfhegdaaGreat
namespace Go.Proofs.YtdnkjbbpfhegdaaGreat
open Go.RowKit Go.Shelf

def ErrPost (w : World) (p : Nat) (F : Nat → Prop) (x : Int) (d' : AD) (e : Ending) (w' : World) : Prop := e = .returned (.int .i64 x) ∧ Turned w w' p F d'
theorem turned_wrote {w w1 w2 : World} {p : Nat} {F : Nat → Prop} {c : AR} {d : AD} (h : ArenaAt w p c d) (hfo : ∀ k, c.foot p k → F k) (k1 : Keeps w w1 (fun _ => False)) {bs : List UInt8} {e : Ending} {y : Int} (hw : e = .returned (.int .i64 y) ∧ MemAt 118 5 w2 c.b c.g bs c.sp ∧ Keeps w1 w2 (fun i => i = c.g)) : Turned w w2 p F (d.bytes bs) :=
  ⟨⟨c, (h.keeps k1 (fun _ _ e => e)).wrote hw.2.1 hw.2.2, fun k hk => Or.inl (hfo k hk)⟩, (k1.mono (fun _ _ e => e.elim)).trans hw.2.2 (fun i _ e => hfo i (Or.inr (Or.inr (Or.inl e))))⟩

def storeR (d : AD) (off n : Int) (v : Nat) : Int × AD := if widthB n then (if d.goodB off n then (0, d.bytes (splice d.bs off.toNat (leBytes v n.toNat))) else (24, d)) else (10, d)
def fillR (d : AD) (off n : Int) (u : UInt8) : Int × AD := if d.goodB off n then (0, d.bytes (splice d.bs off.toNat (same n.toNat u))) else (24, d)
def copyR (d : AD) (x y n : Int) : Int × AD := if d.goodB x n && d.goodB y n then (0, d.bytes (splice d.bs x.toNat ((d.bs.drop y.toNat).take n.toNat))) else (24, d)

set_option maxHeartbeats 1000000 in
theorem astore_any {w : World} {p : Nat} {F : Nat → Prop} {d : AD} (hA : Arena w p F d) (hF : d.Fine) (off n : Int) (v : Nat) (ho : fitsI off) (hn : fitsI n) :
    Calls Tryz.prog 64 #[.pointer (some ⟨p, 0, none⟩), .int .i64 off, .int .i64 n, .int .u64 (v : Int)] w fun e w' => ErrPost w p F (storeR d off n v).1 (storeR d off n v).2 e w' := by
  obtain ⟨c, h, hfo⟩ := hA.at
  unfold storeR
  cases hw : widthB n
  · have hN := anum_width w (.pointer (some ⟨p, 0, none⟩)) off n hw
    simp only [Bool.false_eq_true, if_false]
    clear h hF
    go_enter Tryz.func64, Tryz.ntmps64
    go_wp2_with fail
    refine hN.mono ?_
    rintro e w1 ⟨rfl, k1⟩
    have T1 := hide (hA.same k1)
    clear hN k1 hA
    go_wp2_with fail
    go_ret
    exact ⟨rfl, T1.out⟩
  · have hN := anum_good w _ off n _ hw (good_any h hF off n ho hn)
    cases hg : d.goodB off n
    · rw [hg] at hN
      simp only [Bool.false_eq_true, if_false, if_true] at hN ⊢
      clear h hF
      go_enter Tryz.func64, Tryz.ntmps64
      go_wp2_with fail
      refine hN.mono ?_
      rintro e w1 ⟨rfl, k1⟩
      have T1 := hide (hA.same k1)
      clear hN k1 hA
      go_wp2_with fail
      go_ret
      exact ⟨rfl, T1.out⟩
    · rw [hg] at hN
      obtain ⟨o, k, rfl, rfl, ho16, hok⟩ := hF.span hg
      simp only [if_true, Int.toNat_natCast] at hN ⊢
      have hst := fun W (kW : Keeps w W (fun _ => False)) => store_yes W c.b c.g d.bs c.sp (h.mem.keeps kW id id) o k v hw hok
      have hc2 := fun W (kW : Keeps w W (fun _ => False)) => (h.keeps kW (fun _ _ e => e)).cell2
      clear hF hg hA
      go_enter Tryz.func64, Tryz.ntmps64
      go_wp2_with fail
      refine hN.mono ?_
      rintro e w1 ⟨rfl, k1⟩
      replace hst := hst w1 k1
      replace hc2 := hc2 w1 k1
      clear hN
      go_wp2_with fail
      refine hst.mono ?_
      intro e w2 hp
      have T1 := hide (turned_wrote h hfo k1 hp)
      obtain ⟨rfl, _, _⟩ := hp
      clear hst h k1
      go_wp2_with fail
      go_ret
      exact ⟨rfl, T1.out⟩

set_option maxHeartbeats 1000000 in
theorem afill_any {w : World} {p : Nat} {F : Nat → Prop} {d : AD} (hA : Arena w p F d) (hF : d.Fine) (off n : Int) (u : UInt8) (ho : fitsI off) (hn : fitsI n) :
    Calls Tryz.prog 21 #[.pointer (some ⟨p, 0, none⟩), .int .i64 off, .int .i64 n, .int .u8 (u.toNat : Int)] w fun e w' => ErrPost w p F (fillR d off n u).1 (fillR d off n u).2 e w' := by
  obtain ⟨c, h, hfo⟩ := hA.at
  have hN := good_any h hF off n ho hn
  unfold fillR
  cases hg : d.goodB off n
  · rw [hg] at hN
    simp only [Bool.false_eq_true, if_false]
    clear h hF
    go_enter Tryz.func21, Tryz.ntmps21
    go_wp2_with fail
    refine hN.mono ?_
    rintro e w1 ⟨rfl, k1⟩
    have T1 := hide (hA.same k1)
    clear hN k1 hA
    go_wp2_with fail
    go_ret
    exact ⟨rfl, T1.out⟩
  · rw [hg] at hN
    obtain ⟨o, k, rfl, rfl, ho16, hok⟩ := hF.span hg
    simp only [if_true, Int.toNat_natCast]
    have hst := fun W (kW : Keeps w W (fun _ => False)) => fill_yes W c.b c.g d.bs c.sp (h.mem.keeps kW id id) o k hok u
    have hc2 := fun W (kW : Keeps w W (fun _ => False)) => (h.keeps kW (fun _ _ e => e)).cell2
    clear hF hg hA
    go_enter Tryz.func21, Tryz.ntmps21
    go_wp2_with fail
    refine hN.mono ?_
    rintro e w1 ⟨rfl, k1⟩
    replace hst := hst w1 k1
    replace hc2 := hc2 w1 k1
    clear hN
    go_wp2_with fail
    refine hst.mono ?_
    intro e w2 hp
    have T1 := hide (turned_wrote h hfo k1 hp)
    obtain ⟨rfl, _, _⟩ := hp
    clear hst h k1
    go_wp2_with fail
    go_ret
    exact ⟨rfl, T1.out⟩
end Go.Proofs.YtdnkjbbpfhegdaaGreat
namespace Go.Proofs.YtdnkjbbpfhegdaaGreat
open Go.RowKit Go.Shelf

/-- The bytes of a span. -/
def AD.span (d : AD) (off n : Int) : List UInt8 := (d.bs.drop off.toNat).take n.toNat
def readV (d : AD) (off n : Int) : ByteArray × Int := if d.goodB off n then (strOf (d.span off n), 0) else (ByteArray.empty, 24)
def ReadAPost (w : World) (s : ByteArray) (x : Int) (e : Ending) (w' : World) : Prop := e = .returned (.tuple #[.string s, .int .i64 x]) ∧ Keeps w w' (fun _ => False)
set_option maxHeartbeats 1000000 in
theorem aread_any {w : World} {p : Nat} {c : AR} {d : AD} (h : ArenaAt w p c d) (hF : d.Fine) (off n : Int) (ho : fitsI off) (hn : fitsI n) :
    Calls Tryz.prog 10 #[.pointer (some ⟨p, 0, none⟩), .int .i64 off, .int .i64 n] w fun e w' => ReadAPost w (readV d off n).1 (readV d off n).2 e w' := by
  have hN := good_any h hF off n ho hn
  unfold readV
  cases hg : d.goodB off n
  · rw [hg] at hN
    simp only [Bool.false_eq_true, if_false]
    clear h hF
    go_enter Tryz.func10, Tryz.ntmps10
    go_wp2_with fail
    refine hN.mono ?_
    rintro e w1 ⟨rfl, k1⟩
    have K1 := hide k1
    clear hN k1
    go_wp2_with fail
    go_ret2
    exact ⟨rfl, K1.out⟩
  · rw [hg] at hN
    obtain ⟨o, k, rfl, rfl, ho16, hok⟩ := hF.span hg
    simp only [if_true]
    have hsp : d.span (o : Int) (k : Int) = (d.bs.drop o).take k := by simp [AD.span]
    rw [hsp]
    have hrd := fun W (kW : Keeps w W (fun _ => False)) => read_yes W c.b c.g d.bs c.sp (h.mem.keeps kW id id) o k hok
    have hc2 := fun W (kW : Keeps w W (fun _ => False)) => (h.keeps kW (fun _ _ e => e)).cell2
    have hlen : ((d.bs.drop o).take k).length = k := by simp; omega
    obtain ⟨x, hx⟩ : ∃ x, (d.bs.drop o).take k = x := ⟨_, rfl⟩
    rw [hx] at hlen ⊢
    obtain ⟨s, hs⟩ : ∃ s, strOf x = s := ⟨_, rfl⟩
    rw [hs]
    clear h hF hg hsp
    go_enter Tryz.func10, Tryz.ntmps10
    go_wp2_with fail
    refine hN.mono ?_
    rintro e w1 ⟨rfl, k1⟩
    replace hrd := hrd w1 k1
    replace hc2 := hc2 w1 k1
    clear hN
    go_wp2_with fail
    refine hrd.mono ?_
    rintro e w2 ⟨hh, _, rfl, hr, k2⟩
    rw [hx] at hr
    have K2 := hide (k1.trans k2 (fun _ _ e => e))
    have htx := run_text w2 ⟨hh, 0, none⟩ k k x hlen (fun j hj => by
      have := rowOf_get x j hj
      rw [addr_add, Nat.zero_add]
      simp only [World.cell?, hr]
      simpa using this)
    rw [hs] at htx
    clear hrd hr k1 k2 hc2 hx hs
    go_wp2_with fail
    go_ret2
    exact ⟨rfl, K2.out⟩

def equalV (d : AD) (x y n : Int) : Bool × Int := if d.goodB x n && d.goodB y n then (eqS (strOf (d.span x n)) (strOf (d.span y n)), 0) else (false, 24)
def EqAPost (w : World) (t : Bool) (x : Int) (e : Ending) (w' : World) : Prop := e = .returned (.tuple #[.bool t, .int .i64 x]) ∧ Keeps w w' (fun _ => False)
set_option maxHeartbeats 1000000 in
theorem aequal_any {w : World} {p : Nat} {c : AR} {d : AD} (h : ArenaAt w p c d) (hF : d.Fine) (x y n : Int) (hx : fitsI x) (hy : fitsI y) (hn : fitsI n) :
    Calls Tryz.prog 78 #[.pointer (some ⟨p, 0, none⟩), .int .i64 x, .int .i64 y, .int .i64 n] w fun e w' => EqAPost w (equalV d x y n).1 (equalV d x y n).2 e w' := by
  have hN := good_any h hF x n hx hn
  have hM := fun W (kW : Keeps w W (fun _ => False)) => good_any (h.keeps kW (fun _ _ e => e)) hF y n hy hn
  unfold equalV
  cases hg : d.goodB x n
  · rw [hg] at hN
    simp only [Bool.false_and, Bool.false_eq_true, if_false]
    clear h hF hM
    go_enter Tryz.func78, Tryz.ntmps78
    go_wp2_with fail
    refine hN.mono ?_
    rintro e w1 ⟨rfl, k1⟩
    have K1 := hide k1
    clear hN k1
    go_wp2_with fail
    go_ret2
    exact ⟨rfl, K1.out⟩
  · rw [hg] at hN
    cases hg2 : d.goodB y n
    · rw [hg2] at hM
      simp only [Bool.and_false, Bool.false_eq_true, if_false]
      clear h hF
      go_enter Tryz.func78, Tryz.ntmps78
      go_wp2_with fail
      refine hN.mono ?_
      rintro e w1 ⟨rfl, k1⟩
      replace hM := hM w1 k1
      clear hN
      go_wp2_with fail
      refine hM.mono ?_
      rintro e w2 ⟨rfl, k2⟩
      have K1 := hide (k1.trans k2 (fun _ _ e => e))
      clear hM k1 k2
      go_wp2_with fail
      go_ret2
      exact ⟨rfl, K1.out⟩
    · rw [hg2] at hM
      obtain ⟨o, k, rfl, rfl, ho16, hok⟩ := hF.span hg
      obtain ⟨o2, k', rfl, hkk, _, hok2⟩ := hF.span hg2
      obtain rfl : k = k' := by omega
      simp only [Bool.and_self, if_true, AD.span, Int.toNat_natCast]
      have hst := fun W (kW : Keeps w W (fun _ => False)) => equal_yes W c.b c.g d.bs c.sp (h.mem.keeps kW id id) o o2 k hok hok2
      have hc2 := fun W (kW : Keeps w W (fun _ => False)) => (h.keeps kW (fun _ _ e => e)).cell2
      clear hF hg hg2 hkk h
      generalize eqS (strOf ((d.bs.drop o).take k)) (strOf ((d.bs.drop o2).take k)) = t at *
      go_enter Tryz.func78, Tryz.ntmps78
      go_wp2_with fail
      refine hN.mono ?_
      rintro e w1 ⟨rfl, k1⟩
      replace hM := hM w1 k1
      clear hN
      go_wp2_with fail
      refine hM.mono ?_
      rintro e w2 ⟨rfl, k2⟩
      replace k1 := k1.trans k2 (fun _ _ e => e)
      replace hst := hst w2 k1
      replace hc2 := hc2 w2 k1
      have K1 := hide k1
      clear hM k2 k1
      go_wp2_with fail
      refine hst.mono ?_
      rintro e w3 ⟨rfl, rfl⟩
      clear hst
      go_wp2_with fail
      go_ret2
      exact ⟨rfl, K1.out⟩
end Go.Proofs.YtdnkjbbpfhegdaaGreat
