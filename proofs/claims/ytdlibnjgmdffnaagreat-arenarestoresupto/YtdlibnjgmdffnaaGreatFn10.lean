import Derived.Laws.AppendOwnNone
import Derived.Deep.QuietTactic
import Derived.BigQuiet
import Derived.Test.YtdlibnjgmdffnaaGreatFn9
/-
  The document's arena: several blocks at once.
-/
namespace Go.Proofs.YtdlibnjgmdffnaaGreat
open Go.RowKit Go.Shelf
set_option linter.unusedVariables false

theorem RTurned.trans {w w1 w2 : World} {r : Nat} {F G : Nat → Prop} {d1 d2 : AD} (h1 : RTurned w w1 r F d1) (h2 : RTurned w1 w2 r G d2) (hG : ∀ k, G k → k < w1.heap.size → F k ∨ w.heap.size ≤ k) (hGl : ∀ k, G k → k < w1.heap.size) : RTurned w w2 r F d2 := by
  have hs := h1.2.size
  refine ⟨h2.1.mono (fun i _ hi => ?_), h1.2.trans h2.2 (fun i hi e => ?_)⟩
  · rcases hi with hi | hi
    · exact hG i hi (hGl i hi)
    · exact Or.inr (by omega)
  · rcases hG i e (hGl i e) with e | e
    · exact e
    · omega
/-- A block of another kind is none of the reference's. -/
theorem Ref.apart {w : World} {r : Nat} {F : Nat → Prop} {d : AD} (h : Ref w r F d) {b : Nat} {o : Obj} (hb : w.heap[b]? = some o) (ho : ∀ c fz, o ≠ .cells c 58 fz ∧ o ≠ .cells c 74 fz ∧ o ≠ .cells c 5 fz) : Ref w r (fun k => F k ∧ k ≠ b) d := by
  obtain ⟨v, xs, h1, h2, hF⟩ := h
  refine ⟨v, xs, h1, h2, fun k hk => ⟨hF k hk, ?_⟩⟩
  rcases hk with rfl | hk | ⟨i, hi, rfl⟩
  · exact ne_of_obj h1.hp hb (fun e => (ho _ _).1 e.symm)
  · obtain ⟨cur, hc⟩ := h1.row_obj hk
    exact ne_of_obj hc hb (fun e => (ho _ _).2.1 e.symm)
  · exact ne_of_obj (h1.bytes i hi) hb (fun e => (ho _ _).2.2 e.symm)
theorem int_row {c : Array Value} {fz : Nat × Nat} : ∀ c' fz', (Obj.cells c 3 fz) ≠ .cells c' 58 fz' ∧ (Obj.cells c 3 fz) ≠ .cells c' 74 fz' ∧ (Obj.cells c 3 fz) ≠ .cells c' 5 fz' := fun c' fz' => by simp
/-- .. nor a list of ints of one's own. -/
theorem Ref.apartV {w : World} {r : Nat} {F : Nat → Prop} {d : AD} (h : Ref w r F d) {B n : Nat} {v : Value} {cs : List Value} (hv : w.ownsRow B 3 1 v n cs) : Ref w r (fun k => F k ∧ v.ownBlock ≠ some k) d := by
  cases hb : v.ownBlock with
  | none => exact h.mono (fun i _ e => ⟨e, fun e => by cases e⟩)
  | some b =>
    obtain ⟨_, cur, hc⟩ := ownsRow_block hv hb
    exact (h.apart hc int_row).mono (fun i _ e => ⟨e.1, fun e2 => by cases e2; exact e.2 rfl⟩)

/-- A list of ints of one's own gets one more. -/
theorem ints_more {w : World} {B : Nat} {v : Value} {ys : List Int} (h : w.ownsRow B 3 1 v ys.length (ys.map cellI)) (z : Int) (hn : ys.length ≤ 1000000000) (hB : B ≤ w.heap.size) :
    ∃ g cap w2, (∀ ty, (Builtin.append_ #[32, 32] ty #[v, .slice (some ⟨w.heap.size, 0, none⟩) 1 1]).run Tryz.prog (w.alloc (.cells #[.int .i64 z] 3)) = .ok (.slice (some ⟨g, 0, none⟩) (ys.length + 1) cap) w2) ∧
      w2.ownsRow B 3 1 (.slice (some ⟨g, 0, none⟩) (ys.length + 1) cap) (ys ++ [z]).length ((ys ++ [z]).map cellI) ∧ Keeps w w2 (fun k => v.ownBlock = some k) := by
  have k0 : Keeps w (w.alloc (.cells #[.int .i64 z] 3)) (fun _ => False) := (Keeps.refl _ _).alloc _
  obtain ⟨g, cap, w2, hr, hown, kk, hloc⟩ := append_one (P := Tryz.prog) 32 3 (.int .i64 0) 8 Tryz.underlying32 (by kernel_rfl) rfl (ownsRow_keeps h k0 (fun _ _ => id)) (heap_alloc_new w (.cells #[.int .i64 z] 3)) rfl (by omega) (by simp only [maxLen]; omega) (by simp; omega)
  exact ⟨g, cap, w2, hr, by simpa [cellI] using hown, (k0.mono (fun _ _ e => e.elim)).trans kk (fun _ _ e => e)⟩

theorem class_pos {c : Nat} (h : c ∈ classList) : 16 ≤ c ∧ c ≤ 1048576 := by
  have : ∀ c ∈ classList, 16 ≤ c ∧ c ≤ 1048576 := by decide +kernel
  exact this c h

/-- A block is taken. -/
theorem ref_take {w : World} {r : Nat} {F : Nat → Prop} {d : AD} (h : Ref w r F d) (hF : d.Fine) (hW : d.Well) {c : Nat} (hc : c ∈ classList) :
    Calls Tryz.prog 75 #[.pointer (some ⟨r, 0, none⟩), .int .i64 (c : Int)] w fun e w' => e = .returned (.int .i64 ((listT d c).1 : Int)) ∧ RTurned w w' r F (listT d c).2 := by
  obtain ⟨v, xs, h1, s, hfo⟩ := h
  have hroom := hW.room hF
  have hlim := hF.lim
  have hcp := class_pos hc
  refine (r2take_any h1 (s.few hF) c (by omega)).mono ?_
  intro e w' hp
  rcases hp with ⟨k, hk, hR, rfl, b, hb, hA, hK⟩ | ⟨hno, rfl, b, v', hb, hA, hK, hv'⟩
  · obtain ⟨_, f1, f2, f3⟩ := hR
    obtain ⟨rr, hfm⟩ := s.again hF hW.rises hk f1 f2 f3
    rw [listT_again hfm]
    refine ⟨rfl, ⟨v, _, ?_, s.retook (g := b) hF hk f2, fun i hi => ?_⟩, hK.mono (fun i _ e => hfo i (Or.inr (Or.inl e)))⟩
    · have hbd := s.bound hF hk
      have e1 : (d.retook c xs[k].off rr).bs.length = d.bs.length := by rw [AD.retook_bs, splice_length (by rw [zeros_length]; omega)]
      rw [e1]
      exact hA
    · rcases hi with rfl | hi | ⟨j, hj, rfl⟩
      · exact Or.inl (hfo _ (Or.inl rfl))
      · exact Or.inl (hfo _ (Or.inr (Or.inl hi)))
      · rw [set_get]
        split
        · exact Or.inr hb
        · exact Or.inl (hfo _ (Or.inr (Or.inr ⟨j, by simpa using hj, rfl⟩)))
  · rw [listT_new (s.none hF hno)]
    refine ⟨rfl, ⟨v', _, ?_, s.took (g := b) hF (by omega), fun i hi => ?_⟩, hK.mono (fun i _ e => ?_)⟩
    · have e1 : (d.took c).bs.length = d.bs.length + c := by rw [AD.took_bs, List.length_append, zeros_length]
      rw [e1]
      exact hA
    · rcases hi with rfl | hi | ⟨j, hj, rfl⟩
      · exact Or.inl (hfo _ (Or.inl rfl))
      · rcases hv' _ hi with e | e
        · exact Or.inl (hfo _ (Or.inr (Or.inl e)))
        · exact Or.inr e
      · by_cases hj' : j < xs.length
        · rw [List.getElem_append_left hj']
          exact Or.inl (hfo _ (Or.inr (Or.inr ⟨j, hj', rfl⟩)))
        · have e : j = xs.length := by simp at hj; omega
          subst e
          exact Or.inr (by simpa using hb)
    · rcases e with e | e
      · exact hfo i (Or.inl e)
      · exact hfo i (Or.inr (Or.inl e))

/-- A list that came in: its block is none of F. -/
def LIn (w : World) (F : Nat → Prop) (a : Option Addr) (zs : List Int) : Prop := ∀ j (h : j < zs.length), ∃ b o, a = some ⟨b, o, none⟩ ∧ b < w.heap.size ∧ ¬ F b ∧ w.cell? ⟨b, o + j, none⟩ = some (.int .i64 zs[j])
theorem LIn.keeps {w w' : World} {F : Nat → Prop} {a : Option Addr} {zs : List Int} (h : LIn w F a zs) (k : Keeps w w' F) : LIn w' F a zs := fun j hj => by
  obtain ⟨b, o, e, h1, h2, h3⟩ := h j hj
  exact ⟨b, o, e, Nat.lt_of_lt_of_le h1 k.size, h2, (World.cell?_of_block (k.block b h1 h2)).trans h3⟩
theorem LIn.ints {w : World} {F : Nat → Prop} {a : Option Addr} {zs : List Int} (h : LIn w F a zs) : IntsAt w a zs := fun j hj => by
  obtain ⟨b, o, e, h1, h2, h3⟩ := h j hj
  exact ⟨b, o, e, h3⟩

def RAllPost (w : World) (r : Nat) (F : Nat → Prop) (d : AD) (zs : List Int) (e : Ending) (w' : World) : Prop :=
  (refE d zs ≠ 0 ∧ e = .returned (.tuple #[.slice none 0 0, .int .i64 (refE d zs)]) ∧ Keeps w w' (fun _ => False)) ∨
  (refE d zs = 0 ∧ ∃ so cap, e = .returned (.tuple #[.slice so zs.length cap, .int .i64 0]) ∧ w'.ownsRow w.heap.size 3 1 (.slice so zs.length cap) (takeAll listT d zs).1.length ((takeAll listT d zs).1.map cellI) ∧ RTurned w w' r F (takeAll listT d zs).2)

set_option maxRecDepth 100000 in
set_option maxHeartbeats 2000000 in
theorem r2all_ask {w : World} {r : Nat} {F : Nat → Prop} {d : AD} (a : Option Addr) (cap : Nat) (zs : List Int) (hbig : zs.length ≤ 134217728) (hz : LIn w F a zs) (hno : Hid (¬ allOne zs)) :
    Calls Tryz.prog 43 #[.pointer (some ⟨r, 0, none⟩), .slice a zs.length cap] w fun e w' => e = .returned (.tuple #[.slice none 0 0, .int .i64 21]) ∧ w' = w := by
  have HZ := hide hz
  clear hz
  go_enter Tryz.func43, Tryz.ntmps43
  go_wp2_with fail
  go_loopw [6] (fun i wr => ∃ k : Nat, k ≤ zs.length ∧ i = .int .i64 (k : Int) ∧ w = wr ∧ Hid (∀ j (hj : j < zs.length), j < k → 1 ≤ zs[j])) (fun i _ => zs.length - (intOf i).toNat)
  case atStart => exact ⟨0, Nat.zero_le _, rfl, rfl, fun j _ hj => by omega⟩
  case round =>
    obtain ⟨k, hk, rfl, rfl, hone⟩ := hrel
    by_cases hlt : k < zs.length
    · obtain ⟨b, o, rfl, _, _, x0⟩ := HZ.out k hlt
      have hlt' : (k : Int) < (zs.length : Int) := by omega
      by_cases h1 : zs[k] < 1
      · clear HZ hone
        generalize zs[k] = y at *
        go_wp2_with fail
        go_ret2
        exact ⟨rfl, rfl⟩
      · have hN : Hid (∀ j (hj : j < zs.length), j < k + 1 → 1 ≤ zs[j]) := fun j hj hjk => by
          rcases Nat.lt_or_ge j k with h2 | h2
          · exact hone.out j hj h2
          · obtain rfl : j = k := by omega
            omega
        clear HZ hone
        generalize zs[k] = y at *
        go_wp2_with fail
        go_roundw
        case rel => exact ⟨k + 1, by omega, by go_num, by trivial, hN⟩
        case measure => simp [intOf]; omega
    · exfalso
      refine hno.out (fun z hz => ?_)
      obtain ⟨j, hj, rfl⟩ := List.getElem_of_mem hz
      exact hone.out j hj (by omega)

set_option maxRecDepth 100000 in
set_option maxHeartbeats 2000000 in
theorem r2all_mem {w : World} {r lim en : Nat} {v : Value} {xs : List RB} {F : Nat → Prop} (h : RAt w r lim en v xs) (hn : xs.length ≤ 134217728) (hlim : lim ≤ 2097152) (hs : rsum xs ≤ lim) (a : Option Addr) (cap : Nat) (zs : List Int) (hbig : zs.length ≤ 134217728) (hz : LIn w F a zs) (hall : Hid (allOne zs)) (hno : Hid (fitsIn ((lim : Int) - (rsum xs : Int)) zs = false)) :
    Calls Tryz.prog 43 #[.pointer (some ⟨r, 0, none⟩), .slice a zs.length cap] w fun e w' => e = .returned (.tuple #[.slice none 0 0, .int .i64 22]) ∧ w' = w := by
  have HZ := hide hz
  have hL := r2live_any h hn (by omega)
  have c0 := h.cell0
  clear hz h
  go_enter Tryz.func43, Tryz.ntmps43
  go_wp2_with fail
  go_loopw [6] (fun i wr => ∃ k : Nat, k ≤ zs.length ∧ i = .int .i64 (k : Int) ∧ w = wr) (fun i _ => zs.length - (intOf i).toNat)
  case atStart => exact ⟨0, Nat.zero_le _, rfl, rfl⟩
  case round =>
    obtain ⟨k, hk, rfl, rfl⟩ := hrel
    by_cases hlt : k < zs.length
    · obtain ⟨b, o, rfl, _, _, x0⟩ := HZ.out k hlt
      have hlt' : (k : Int) < (zs.length : Int) := by omega
      have h1 : ¬ zs[k] < 1 := by have := hall.out _ (List.getElem_mem hlt); omega
      clear HZ hL
      generalize zs[k] = y at *
      go_wp2_with fail
      go_roundw
      case rel => exact ⟨k + 1, by omega, by go_num, by trivial⟩
      case measure => simp [intOf]; omega
    · obtain rfl : k = zs.length := by omega
      have hlt' : ¬ (zs.length : Int) < (zs.length : Int) := by omega
      generalize rsum xs = u at *
      go_wp2_with fail
      refine hL.mono ?_
      rintro e w1 ⟨rfl, hw1⟩
      subst hw1
      clear hL
      go_wp2_with fail
      go_loopw [7, 8] (fun s i wr => ∃ k m : Nat, k ≤ zs.length ∧ i = .int .i64 (k : Int) ∧ s = .int .i64 (m : Int) ∧ m ≤ lim ∧ w1 = wr ∧ Hid (fitsIn ((lim : Int) - (m : Int)) (zs.drop k) = false)) (fun _ i _ => zs.length - (intOf i).toNat)
      case atStart => exact ⟨0, u, Nat.zero_le _, rfl, rfl, hs, rfl, hno.out⟩
      case round =>
        obtain ⟨k, m, hk, rfl, rfl, hm, rfl, hf⟩ := hrel
        by_cases hlt : k < zs.length
        · obtain ⟨b, o, rfl, _, _, x0⟩ := HZ.out k hlt
          have hlt' : (k : Int) < (zs.length : Int) := by omega
          have hC := r2class_any zs[k] w1
          have hcb := classI_bounds zs[k]
          have hstep := hf.out
          rw [fitsIn_drop_succ hlt] at hstep
          have HS := hide hstep
          clear HZ hstep hf hno
          generalize classI zs[k] = C at *
          generalize zs[k] = y at *
          go_wp2_with fail
          refine hC.mono ?_
          rintro e w2 ⟨rfl, hw2⟩
          subst hw2
          clear hC
          by_cases g1 : C = 0
          · subst g1
            clear HS
            go_wp2_with fail
            go_ret2
            exact ⟨rfl, rfl⟩
          · have g1' : (C == 0) = false := beq_eq_false_iff_ne.2 g1
            by_cases g2 : (lim : Int) - (m : Int) < C
            · clear HS
              go_wp2_with fail
              go_ret2
              exact ⟨rfl, rfl⟩
            · have HN : Hid (fitsIn ((lim : Int) - (m : Int) - C) (zs.drop (k + 1)) = false) := by
                have q := HS.out
                rw [if_neg (fun e => by rcases e with e | e <;> contradiction)] at q
                exact q
              obtain ⟨C', rfl⟩ := Int.eq_ofNat_of_zero_le (show 0 ≤ C by omega)
              clear HS
              go_wp2_with fail
              go_roundw
              case rel => exact ⟨k + 1, m + C', by omega, by go_num, by go_num, by omega, by trivial, by have q := HN.out; rw [show (lim : Int) - (m : Int) - (C' : Int) = (lim : Int) - ((m + C' : Nat) : Int) from by omega] at q; exact q⟩
              case measure => simp [intOf]; omega
        · exfalso
          obtain rfl : k = zs.length := by omega
          have q := hf.out
          rw [List.drop_length] at q
          cases q
end Go.Proofs.YtdlibnjgmdffnaaGreat
/-
  The document's arena: several blocks at once, where they are let in; one block.
-/
namespace Go.Proofs.YtdlibnjgmdffnaaGreat
open Go.RowKit Go.Shelf
set_option linter.unusedVariables false

def AllLoop (w : World) (r : Nat) (F : Nat → Prop) (d : AD) (zs : List Int) (k : Nat) (v : Value) (wr : World) : Prop :=
  wr.ownsRow w.heap.size 3 1 v (takeAll listT d (zs.take k)).1.length ((takeAll listT d (zs.take k)).1.map cellI) ∧ RTurned w wr r F (takeAll listT d (zs.take k)).2
theorem AllLoop.ref {w wr : World} {r : Nat} {F : Nat → Prop} {d : AD} {zs : List Int} {k : Nat} {v : Value} (h : AllLoop w r F d zs k v wr) : Ref wr r (fun i => ((F i ∨ w.heap.size ≤ i) ∧ v.ownBlock ≠ some i) ∧ i < wr.heap.size) (takeAll listT d (zs.take k)).2 :=
  (h.2.1.apartV h.1).mono (fun i hi e => ⟨e, hi⟩)
theorem AllLoop.step {w wr w2 : World} {r : Nat} {F : Nat → Prop} {d : AD} {zs : List Int} {k : Nat} {v : Value} (h : AllLoop w r F d zs k v wr) (hk : k < zs.length) (hbig : zs.length ≤ 134217728)
    (h2 : RTurned wr w2 r (fun i => ((F i ∨ w.heap.size ≤ i) ∧ v.ownBlock ≠ some i) ∧ i < wr.heap.size) (listT (takeAll listT d (zs.take k)).2 (classI zs[k]).toNat).2) :
    ∃ g cap w3, (∀ ty, (Builtin.append_ #[32, 32] ty #[v, .slice (some ⟨w2.heap.size, 0, none⟩) 1 1]).run Tryz.prog (w2.alloc (.cells #[.int .i64 ((listT (takeAll listT d (zs.take k)).2 (classI zs[k]).toNat).1 : Int)] 3)) = .ok (.slice (some ⟨g, 0, none⟩) (k + 1) cap) w3) ∧ AllLoop w r F d zs (k + 1) (.slice (some ⟨g, 0, none⟩) (k + 1) cap) w3 := by
  have hs1 := h.2.2.size
  have hs2 := h2.2.size
  have hl : (takeAll listT d (zs.take k)).1.length = k := by rw [takeAll_length, List.length_take]; omega
  have row2 := ownsRow_keeps h.1 h2.2 (fun g hg e => e.1.2 hg)
  obtain ⟨g, cap, w3, hr, hrow, K3⟩ := ints_more row2 ((listT (takeAll listT d (zs.take k)).2 (classI zs[k]).toNat).1 : Int) (by omega) (by omega)
  rw [hl] at hr hrow
  refine ⟨g, cap, w3, hr, ?_, ?_, ?_⟩
  · rw [List.take_succ_eq_append_getElem hk, takeAll_snoc]
    exact hrow
  · rw [List.take_succ_eq_append_getElem hk, takeAll_snoc]
    have q := (h2.1.apartV row2).keeps K3 (fun i _ e => e.2)
    refine q.mono (fun i _ e => ?_)
    rcases e.1 with e | e
    · exact e.1.1
    · exact Or.inr (by omega)
  · refine ((h.2.2.trans h2.2 (fun i hi e => ?_)).trans K3 (fun i hi e => ?_))
    · rcases e.1.1 with e | e
      · exact e
      · omega
    · have := (ownsRow_block h.1 e).1
      omega

def YesPost (w : World) (r : Nat) (F : Nat → Prop) (d : AD) (zs : List Int) (e : Ending) (w' : World) : Prop :=
  ∃ so cap, e = .returned (.tuple #[.slice so zs.length cap, .int .i64 0]) ∧ w'.ownsRow w.heap.size 3 1 (.slice so zs.length cap) (takeAll listT d zs).1.length ((takeAll listT d zs).1.map cellI) ∧ RTurned w w' r F (takeAll listT d zs).2

set_option maxRecDepth 100000 in
set_option maxHeartbeats 4000000 in
theorem r2all_yes {w : World} {r : Nat} {F : Nat → Prop} {d : AD} (h : Ref w r F d) (hF : d.Fine) (hW : d.Well) (a : Option Addr) (cap : Nat) (zs : List Int) (hbig : zs.length ≤ 134217728) (hz : LIn w F a zs) (hall : Hid (allOne zs)) (hfit : Hid (fitsIn ((d.limit : Int) - (d.used : Int)) zs = true)) :
    Calls Tryz.prog 43 #[.pointer (some ⟨r, 0, none⟩), .slice a zs.length cap] w fun e w' => YesPost w r F d zs e w' := by
  have HZ := hide hz
  have HR := hide h
  obtain ⟨v, xs, h1, s, hfo⟩ := h
  have hlim := hF.lim
  have hus := hF.use
  have hsum : rsum xs = d.used := s.sum.trans hF.sum.symm
  have hL := r2live_any h1 (s.few hF) (by omega)
  rw [hsum] at hL
  have c0 := h1.cell0
  have HF := hide hF
  have HW := hide hW
  clear hz h1 s hfo hsum hF hW
  have hst : Hid (fitsIn ((d.limit : Int) - (d.used : Int)) (zs.drop 0) = true) := hfit.out
  generalize hlm : d.limit = lim at *
  generalize hum : d.used = u at *
  have HLM := hide hlm
  have HUM := hide hum
  clear hlm hum
  go_enter Tryz.func43, Tryz.ntmps43
  go_wp2_with fail
  go_loopw [6] (fun i wr => ∃ k : Nat, k ≤ zs.length ∧ i = .int .i64 (k : Int) ∧ w = wr) (fun i _ => zs.length - (intOf i).toNat)
  case atStart => exact ⟨0, Nat.zero_le _, rfl, rfl⟩
  case round =>
    obtain ⟨k, hk, rfl, rfl⟩ := hrel
    by_cases hlt : k < zs.length
    · obtain ⟨b, o, rfl, _, _, x0⟩ := HZ.out k hlt
      have hlt' : (k : Int) < (zs.length : Int) := by omega
      have h1 : ¬ zs[k] < 1 := by have := hall.out _ (List.getElem_mem hlt); omega
      clear HZ hL
      generalize zs[k] = y at *
      go_wp2_with fail
      go_roundw
      case rel => exact ⟨k + 1, by omega, by go_num, by trivial⟩
      case measure => simp [intOf]; omega
    · obtain rfl : k = zs.length := by omega
      have hlt' : ¬ (zs.length : Int) < (zs.length : Int) := by omega
      go_wp2_with fail
      refine hL.mono ?_
      rintro e w1 ⟨rfl, hw1⟩
      subst hw1
      clear hL
      go_wp2_with fail
      go_loopw [7, 8] (fun s i wr => ∃ k m : Nat, k ≤ zs.length ∧ i = .int .i64 (k : Int) ∧ s = .int .i64 (m : Int) ∧ m ≤ lim ∧ w1 = wr ∧ Hid (fitsIn ((lim : Int) - (m : Int)) (zs.drop k) = true)) (fun _ i _ => zs.length - (intOf i).toNat)
      case atStart => exact ⟨0, u, Nat.zero_le _, rfl, rfl, hus, rfl, hst⟩
      case round =>
        obtain ⟨k, m, hk, rfl, rfl, hm, rfl, hf⟩ := hrel
        by_cases hlt : k < zs.length
        · obtain ⟨b, o, rfl, _, _, x0⟩ := HZ.out k hlt
          have hlt' : (k : Int) < (zs.length : Int) := by omega
          have hC := r2class_any zs[k] w1
          have hcb := classI_bounds zs[k]
          have hstep := hf.out
          rw [fitsIn_drop_succ hlt] at hstep
          split at hstep
          · cases hstep
          rename_i hnn
          have g1 : ¬ classI zs[k] = 0 := fun e => hnn (Or.inl e)
          have g2 : ¬ (lim : Int) - (m : Int) < classI zs[k] := fun e => hnn (Or.inr e)
          have HN := hide hstep
          clear HZ hstep hf hnn hst
          generalize classI zs[k] = C at *
          generalize zs[k] = y at *
          go_wp2_with fail
          refine hC.mono ?_
          rintro e w2 ⟨rfl, hw2⟩
          subst hw2
          clear hC
          have g1' : (C == 0) = false := beq_eq_false_iff_ne.2 g1
          obtain ⟨C', rfl⟩ := Int.eq_ofNat_of_zero_le (show 0 ≤ C by omega)
          go_wp2_with fail
          go_roundw
          case rel => exact ⟨k + 1, m + C', by omega, by go_num, by go_num, by omega, by trivial, by have q := HN.out; rw [show (lim : Int) - (m : Int) - (C' : Int) = (lim : Int) - ((m + C' : Nat) : Int) from by omega] at q; exact q⟩
          case measure => simp [intOf]; omega
        · obtain rfl : k = zs.length := by omega
          clear hf hst
          go_wp2_with fail
          go_loopw [10, 11] (fun s i wr => ∃ k : Nat, ∃ so cc, k ≤ zs.length ∧ i = .int .i64 (k : Int) ∧ s = .slice so k cc ∧ Hid (AllLoop w1 r F d zs k (.slice so k cc) wr)) (fun _ i _ => zs.length - (intOf i).toNat)
          case atStart => exact ⟨0, none, 0, Nat.zero_le _, rfl, rfl, (show AllLoop w1 r F d zs 0 (.slice none 0 0) w1 from ⟨World.ownsRow_nil _ _ _ _, HR.out.mono (fun i _ e => Or.inl e), Keeps.refl _ _⟩)⟩
          case round =>
            obtain ⟨k, so, cc, hk, rfl, rfl, hA⟩ := hrel
            by_cases hlt : k < zs.length
            · obtain ⟨b, o, rfl, _, _, x0⟩ := (HZ.out.keeps hA.out.2.2) k hlt
              have hlt' : (k : Int) < (zs.length : Int) := by omega
              have hC := r2class_any zs[k] wr
              have hfit2 : fitsIn ((d.limit : Int) - (d.used : Int)) zs = true := by rw [HLM.out, HUM.out]; exact hfit.out
              obtain ⟨n1, n2, n3, n4⟩ := takeAll_next listOK HW.out HF.out hall.out hfit2 hlt
              obtain ⟨t1, t2, _, _⟩ := takeAll_take listOK HW.out HF.out hall.out hfit2 k (by omega)
              have hT := ref_take hA.out.ref t1 t2 n1
              have hstep := hide (fun w2 h2 => hA.out.step (w2 := w2) hlt hbig h2)
              rw [n4] at hC
              clear HZ hA c0 hfit2 n1 n2 n3 n4 t1 t2
              generalize (classI zs[k]).toNat = C at *
              generalize zs[k] = y at *
              generalize listT (takeAll listT d (zs.take k)).2 C = P at *
              go_wp2_with fail
              refine hC.mono ?_
              rintro e w2 ⟨rfl, hw2⟩
              subst hw2
              clear hC
              go_wp2_with fail
              refine hT.mono ?_
              rintro e w2 ⟨rfl, h2⟩
              clear hT
              obtain ⟨g, cap2, w3, hap, hA3⟩ := hstep.out w2 h2
              have HA3 := hide hA3
              clear hA3 hstep h2
              go_wp2_with (first | (at_builtin; have _t := hap; refine append_run _ rfl (.tmp 67) (.tmp 69) 32 rfl rfl rfl hap ?_; clear hap))
              go_roundw
              case rel => exact ⟨k + 1, _, _, by omega, by go_num, rfl, HA3⟩
              case measure => simp [intOf]; omega
            · obtain rfl : k = zs.length := by omega
              have hfin : Hid (YesPost w1 r F d zs (.returned (.tuple #[.slice so zs.length cc, .int .i64 0])) wr) := by
                have q := hA.out
                unfold AllLoop at q
                rw [List.take_length] at q
                exact ⟨so, cc, rfl, q.1, q.2⟩
              clear HZ hA c0
              go_wp2_with fail
              go_ret2
              exact hfin.out
end Go.Proofs.YtdlibnjgmdffnaaGreat
/-
  Blocks freed at once and one by one, the live blocks are few: the data (out of AT1, AT5, for seats without a book).
-/
namespace Go.Proofs.YtdlibnjgmdffnaaGreat
open Go.RowKit Go.Shelf
set_option linter.unusedVariables false

theorem rising_perm_eq {x y : List Int} (h : x.Perm y) : rising x = rising y :=
  (((rising_perm x).trans h).trans (rising_perm y).symm).eq_of_pairwise (le := (· ≤ ·)) (fun a b _ _ h1 h2 => by omega) (rising_sorted _) (rising_sorted _)
theorem upd_swap {α : Type} (f : Int → Option α) {x y : Int} (a b : Option α) (h : x ≠ y) : upd (upd f x a) y b = upd (upd f y b) x a := by
  funext z
  unfold upd
  by_cases e1 : z = y
  · by_cases e2 : z = x
    · exact absurd (e2.symm.trans e1) h
    · rw [if_pos e1, if_neg e2, if_pos e1]
  · by_cases e2 : z = x
    · rw [if_neg e1, if_pos e2, if_pos e2]
    · rw [if_neg e1, if_neg e2, if_neg e2, if_neg e1]
theorem upd_upd {α : Type} (f : Int → Option α) (x : Int) (a b : Option α) : upd (upd f x a) x b = upd f x b := by
  funext z
  unfold upd
  by_cases e : z = x <;> simp [e]
theorem Gone.swap {d da db : AD} {x y : Int} (h1 : Gone d y da) (h2 : Gone da x db) : ∃ dc, Gone d x dc ∧ Gone dc y db := by
  obtain ⟨s, hs, rfl⟩ := h1
  obtain ⟨t, ht, rfl⟩ := h2
  have ht' : upd d.lv y none x = some (t : Int) := ht
  have hne : x ≠ y := fun e => by
    rw [e, upd_same] at ht'
    cases ht'
  rw [upd_other _ _ _ _ hne] at ht'
  refine ⟨d.gone x t, ⟨t, ht', rfl⟩, s, ?_, ?_⟩
  · show upd d.lv x none y = _
    rw [upd_other _ _ _ _ (fun e => hne e.symm)]
    exact hs
  · show AD.mk _ _ _ _ _ _ = AD.mk _ _ _ _ _ _
    have e1 : d.used - s - t = d.used - t - s := by omega
    have e2 : upd (upd d.lv y none) x none = upd (upd d.lv x none) y none := upd_swap _ _ _ (fun e => hne e.symm)
    have e3 : upd (upd d.fm (s : Int) (some (rising ((d.fm (s : Int)).getD [] ++ [y])))) (t : Int) (some (rising ((upd d.fm (s : Int) (some (rising ((d.fm (s : Int)).getD [] ++ [y]))) (t : Int)).getD [] ++ [x]))) = upd (upd d.fm (t : Int) (some (rising ((d.fm (t : Int)).getD [] ++ [x])))) (s : Int) (some (rising ((upd d.fm (t : Int) (some (rising ((d.fm (t : Int)).getD [] ++ [x]))) (s : Int)).getD [] ++ [y]))) := by
      by_cases e : (s : Int) = (t : Int)
      · rw [e, upd_same, upd_same, upd_upd, upd_upd]
        congr 2
        simp only [Option.getD_some]
        refine rising_perm_eq ?_
        refine (((rising_perm _).append_right _).trans ?_).trans ((rising_perm _).append_right _).symm
        rw [List.append_assoc, List.append_assoc]
        exact List.Perm.append_left _ (List.Perm.swap _ _ _)
      · rw [upd_other _ _ _ _ (fun h => e h.symm), upd_other _ _ _ _ e]
        exact upd_swap _ _ _ e
    have e1' : (d.gone y s).used - t = (d.gone x t).used - s := e1
    exact congr (congr (congr (congr (congr (congrArg AD.mk rfl) e1') rfl) rfl) e2) e3
theorem Gones.perm {l1 l2 : List Int} (h : l1.Perm l2) : ∀ {d d' : AD}, Gones d l1 d' → Gones d l2 d' := by
  induction h with
  | nil => exact fun h => h
  | cons x h ih => exact fun ⟨d1, g, r⟩ => ⟨d1, g, ih r⟩
  | swap x y l =>
    rintro d d' ⟨da, g1, db, g2, r⟩
    obtain ⟨dc, g3, g4⟩ := g1.swap g2
    exact ⟨dc, g3, db, g4, r⟩
  | trans h1 h2 ih1 ih2 => exact fun h => ih2 (ih1 h)
theorem Gone.one {d d1 d2 : AD} {z : Int} (h1 : Gone d z d1) (h2 : Gone d z d2) : d1 = d2 := by
  obtain ⟨s, hs, rfl⟩ := h1
  obtain ⟨t, ht, rfl⟩ := h2
  rw [hs] at ht
  injection ht with e
  have : s = t := by omega
  rw [this]
theorem Gones.one : ∀ {l : List Int} {d d1 d2 : AD}, Gones d l d1 → Gones d l d2 → d1 = d2
  | [], _, _, _, h1, h2 => by cases h1; cases h2; rfl
  | _ :: _, _, _, _, ⟨_, g1, r1⟩, ⟨_, g2, r2⟩ => by
    have := g1.one g2
    subst this
    exact Gones.one r1 r2
theorem AD.Well.gones : ∀ {d : AD} {zs : List Int} {d' : AD}, d.Well → d.Fine → Gones d zs d' → d'.Well
  | _, [], _, W, F, h => by cases h; exact W
  | _, _ :: _, _, W, F, ⟨_, h1, h2⟩ => AD.Well.gones (W.gone F h1) (F.gone h1) h2

theorem good_two {d : AD} {zs : List Int} (hg : allGood d (rising zs)) : zs.Nodup ∧ ∀ z ∈ zs, (d.lv z).isSome = true := by
  have hs := rising_sorted zs
  have hp := rising_perm zs
  refine ⟨hp.nodup_iff.1 ?_, fun z hz => ?_⟩
  · refine List.pairwise_iff_getElem.2 fun i j hi hj hij e => ?_
    have := strict hs hg hij hj
    simp [at0, hi, hj, e] at this
  · obtain ⟨i, hi, rfl⟩ := List.getElem_of_mem (hp.mem_iff.2 hz)
    have := (hg i hi).1
    simpa [at0, hi] using this
theorem two_good {d : AD} {zs : List Int} (h1 : zs.Nodup) (h2 : ∀ z ∈ zs, (d.lv z).isSome = true) : allGood d (rising zs) := by
  have hp := rising_perm zs
  have hn := hp.nodup_iff.2 h1
  intro i hi
  refine ⟨?_, fun h0 e => ?_⟩
  · have : at0 (rising zs) i = (rising zs)[i] := by simp [at0, hi]
    rw [this]
    exact h2 _ (hp.mem_iff.1 (List.getElem_mem hi))
  · have hi1 : i - 1 < (rising zs).length := by omega
    have := (List.pairwise_iff_getElem.1 hn) (i - 1) i hi1 hi (by omega)
    apply this
    simpa [at0, hi, hi1] using e.symm
theorem lives_16 : ∀ {L : List (Nat × Nat)} {lv : Int → Option Int}, (∀ y ∈ L, 16 ≤ y.2) → 16 * (livesOf L lv).length ≤ liveSum L lv
  | [], _, _ => by simp [livesOf, liveSum]
  | y :: r, lv, h => by
    have ih := lives_16 (L := r) (lv := lv) (fun z hz => h z (List.mem_cons_of_mem _ hz))
    have hy := h y (List.mem_cons_self ..)
    rw [liveSum_cons]
    unfold livesOf at ih ⊢
    by_cases e : (lv (y.1 : Int)).isSome = true
    · rw [List.filter_cons, if_pos e, if_pos e, List.length_cons]
      omega
    · rw [List.filter_cons, if_neg e, if_neg e]
      omega
theorem lives_few {d : AD} (hF : d.Fine) (hW : d.Well) : (livesOf d.L d.lv).length ≤ 131072 := by
  have := lives_16 (L := d.L) (lv := d.lv) (fun y hy => (show ∀ c ∈ classList, 16 ≤ c by decide) _ (hW.sizes y hy))
  have := hF.sum
  have := hF.use
  have := hF.lim
  omega

set_option maxRecDepth 100000 in
set_option maxHeartbeats 2000000 in
/-- AllocAll of as many as one likes, none too. -/
theorem allocAll_yes {T : AD → Nat → Nat × AD} {G : AD → Prop} (hT : TakeOK T G) {w : World} {p : Nat} {F : Nat → Prop} {d : AD} (h : Arena w p F d) (hG : G d) (hF : d.Fine) (b o cap : Nat) (zs : List Int) (hz : ∀ j (h : j < zs.length), w.cell? ⟨b, o + j, none⟩ = some (.int .i64 zs[j]))
    (hb : ¬ F b) (hbl : b < w.heap.size) (ha : Hid (allOne zs)) (hf : Hid (fitsIn ((d.limit : Int) - (d.used : Int)) zs = true)) :
    Calls Tryz.prog 42 #[.pointer (some ⟨p, 0, none⟩), .slice (some ⟨b, o, none⟩) zs.length cap] w fun e w' => AllPost w p F (takeAll T d zs).1 (takeAll T d zs).2 e w' := by
  rcases Nat.eq_zero_or_pos zs.length with h0 | h0
  · obtain rfl : zs = [] := List.length_eq_zero_iff.1 h0
    have hR : Calls Tryz.prog 73 #[.pointer (some ⟨p, 0, none⟩), .slice (some ⟨b, o, none⟩) 0 cap] w fun e w' => RefPost w 0 e w' := by
      obtain ⟨c, hc, _⟩ := h
      exact refused_nil hc hF _ _
    simp only [List.length_nil]
    clear hz ha hf h0
    go_enter Tryz.func42, Tryz.ntmps42
    go_wp2_with fail
    refine hR.mono ?_
    rintro e w1 ⟨rfl, k1⟩
    clear hR
    have hmk := run_make_ints (P := Tryz.prog) w1 32 Tryz.underlying32 Tryz.infoI 0 (by omega)
    rw [show ((0 : Nat) : Int) = 0 from rfl] at hmk
    have hs1 := k1.size
    have hfin : Hid (AllPost w p F (takeAll T d []).1 (takeAll T d []).2 (.returned (.tuple #[.slice (some ⟨w1.heap.size, 0, none⟩) 0 0, .int .i64 0])) (w1.alloc (.cells (offRow 0 []) 3))) := by
      refine ⟨w1.heap.size, hs1, rfl, heap_alloc_new _ _, ?_, (k1.mono (fun _ _ e => e.elim)).alloc _⟩
      have k2 : Keeps w (w1.alloc (.cells (offRow 0 []) 3)) (fun _ => False) := k1.alloc _
      exact (h.mono (G := fun x => (F x ∨ w.heap.size ≤ x) ∧ x ≠ w1.heap.size) (fun i hi hFi => ⟨Or.inl hFi, by omega⟩)).keeps k2 (fun _ _ _ e => e)
    clear h
    go_wp2_with fail
    go_loopw [21] (fun i wr => i = .int .i64 0 ∧ w1.alloc (.cells (offRow 0 []) 3) = wr) (fun i _ => 0)
    case atStart => exact ⟨rfl, rfl⟩
    case round =>
      obtain ⟨rfl, rfl⟩ := hrel
      go_wp2_with fail
      go_ret2
      exact hfin.out
  · exact allocAll_some hT h hG hF b o cap zs hz hb hbl h0 ha hf
end Go.Proofs.YtdlibnjgmdffnaaGreat
/-
  The document's arena: AllocAll, Alloc, Size, Free.
-/
namespace Go.Proofs.YtdlibnjgmdffnaaGreat
open Go.RowKit Go.Shelf
set_option linter.unusedVariables false

theorem ref_all {w : World} {r : Nat} {F : Nat → Prop} {d : AD} (h : Ref w r F d) (hF : d.Fine) (hW : d.Well) (a : Option Addr) (cap : Nat) (zs : List Int) (hbig : zs.length ≤ 134217728) (hz : LIn w F a zs) :
    Calls Tryz.prog 43 #[.pointer (some ⟨r, 0, none⟩), .slice a zs.length cap] w fun e w' => RAllPost w r F d zs e w' := by
  by_cases ha : allOne zs
  · cases hf : fitsIn ((d.limit : Int) - (d.used : Int)) zs
    · have e : refE d zs = 22 := by
        unfold refE
        rw [if_pos ha, hf]
        simp
      obtain ⟨v, xs, h1, s, hfo⟩ := h
      have hsum : rsum xs = d.used := s.sum.trans hF.sum.symm
      refine (r2all_mem h1 (s.few hF) hF.lim (by rw [hsum]; exact hF.use) a cap zs hbig hz ha (by rw [hsum]; exact hf)).mono fun e' w' hp => ?_
      obtain ⟨rfl, rfl⟩ := hp
      exact Or.inl ⟨by rw [e]; decide, by rw [e], Keeps.refl _ _⟩
    · refine (r2all_yes h hF hW a cap zs hbig hz ha hf).mono fun e' w' hp => ?_
      exact Or.inr ⟨allOne_fits_zero ha hf, hp⟩
  · have e : refE d zs = 21 := by
      unfold refE
      rw [if_neg ha]
    refine (r2all_ask (r := r) (d := d) a cap zs hbig hz ha).mono fun e' w' hp => ?_
    obtain ⟨rfl, rfl⟩ := hp
    exact Or.inl ⟨by rw [e]; decide, by rw [e], Keeps.refl _ _⟩

def RAllocPost (w : World) (r : Nat) (F : Nat → Prop) (d : AD) (n : Int) (e : Ending) (w' : World) : Prop :=
  (refE d [n] ≠ 0 ∧ e = .returned (.tuple #[.int .i64 0, .int .i64 (refE d [n])]) ∧ Keeps w w' (fun _ => False)) ∨
  (refE d [n] = 0 ∧ e = .returned (.tuple #[.int .i64 ((listT d (classI n).toNat).1 : Int), .int .i64 0]) ∧ RTurned w w' r F (listT d (classI n).toNat).2)
set_option maxRecDepth 100000 in
set_option maxHeartbeats 2000000 in
theorem ref_alloc {w : World} {r : Nat} {F : Nat → Prop} {d : AD} (h : Ref w r F d) (hFl : ∀ k, F k → k < w.heap.size) (hF : d.Fine) (hW : d.Well) (n : Int) :
    Calls Tryz.prog 17 #[.pointer (some ⟨r, 0, none⟩), .int .i64 n] w fun e w' => RAllocPost w r F d n e w' := by
  have k0 : Keeps w (w.alloc (.cells #[.int .i64 n] 3)) (fun _ => False) := (Keeps.refl _ _).alloc _
  have hA := ref_all (h.stay k0) hF hW (some ⟨w.heap.size, 0, none⟩) 1 [n] (by simp) (fun j hj => by
    have hj0 : j = 0 := by simpa using hj
    subst hj0
    refine ⟨w.heap.size, 0, rfl, by simp, fun e => by have := hFl _ e; omega, ?_⟩
    simp only [World.cell?, heap_alloc_new]
    simp)
  simp only [List.length_cons, List.length_nil, Nat.zero_add] at hA
  have HK0 := hide k0
  clear h hF hW hFl k0
  go_enter Tryz.func17, Tryz.ntmps17
  go_wp2_with fail
  refine hA.mono ?_
  intro e w1 hp
  clear hA
  rcases hp with ⟨h0, rfl, k1⟩ | ⟨h0, so, cap, rfl, hrow, hT⟩
  · have hfin : Hid (RAllocPost w r F d n (.returned (.tuple #[.int .i64 0, .int .i64 (refE d [n])])) w1) := (show RAllocPost _ _ _ _ _ _ _ from Or.inl ⟨h0, rfl, HK0.out.trans k1 (fun _ _ e => e)⟩)
    have hq : (refE d [n] != 0) = true := by simpa using h0
    clear k1
    generalize refE d [n] = x at *
    go_wp2_with fail
    go_ret2
    exact hfin.out
  · rcases hrow.2 with ⟨_, hn⟩ | ⟨g, cap', cur, hv, _, hg, _, _, _, ht⟩
    · rw [takeAll_length] at hn
      simp at hn
    · have e1 : (takeAll listT d [n]).1 = [((listT d (classI n).toNat).1 : Int)] := rfl
      have e2 : (takeAll listT d [n]).2 = (listT d (classI n).toNat).2 := rfl
      rw [e1] at ht hv
      rw [e2] at hT
      injection hv with hv _ _
      subst hv
      have hc : w1.cell? ⟨g, 0, none⟩ = some (.int .i64 ((listT d (classI n).toNat).1 : Int)) := by
        have q : (cur.toList.take 1)[0]? = some (.int .i64 ((listT d (classI n).toNat).1 : Int)) := by
          have q := congrArg (fun l : List Value => l[0]?) ht
          simpa [cellI] using q
        rw [List.getElem?_take, if_pos (by omega)] at q
        simp only [World.cell?, hg]
        simpa using q
      have hT' : RTurned w w1 r F (listT d (classI n).toNat).2 := ⟨hT.1.mono (fun i _ e => e.imp id (fun e => by have := HK0.out.size; omega)), (HK0.out.mono (fun _ _ e => e.elim)).trans hT.2 (fun _ _ e => e)⟩
      have hfin : Hid (RAllocPost w r F d n (.returned (.tuple #[.int .i64 ((listT d (classI n).toNat).1 : Int), .int .i64 0])) w1) := (show RAllocPost _ _ _ _ _ _ _ from Or.inr ⟨h0, rfl, hT'⟩)
      clear hT hT' ht hrow e1 e2 hg h0 HK0
      generalize (listT d (classI n).toNat).1 = z at *
      go_wp2_with fail
      go_ret2
      exact hfin.out

set_option maxRecDepth 100000 in
set_option maxHeartbeats 1000000 in
theorem ref_size {w : World} {r : Nat} {F : Nat → Prop} {d : AD} (h : Ref w r F d) (hF : d.Fine) (off : Int) :
    Calls Tryz.prog 29 #[.pointer (some ⟨r, 0, none⟩), .int .i64 off] w fun e w' => e = .returned (.tuple #[.int .i64 ((d.lv off).getD 0), .int .i64 (if (d.lv off).isSome then 0 else 23)]) ∧ w' = w := by
  obtain ⟨v, xs, h1, s, hfo⟩ := h
  have hn := s.few hF
  have hfind := r2find_any h1 hn off
  have c2 := h1.cell2
  obtain ⟨so, cap, rfl, hcap, hC⟩ := h1.list
  have hres : ∀ e w', FindPost w xs off e w' → w' = w ∧ ((∃ k, ∃ hk : k < xs.length, e = .returned (.int .i64 (k : Int)) ∧ d.lv off = some (xs[k].bs.length : Int)) ∨ (e = .returned (.int .i64 (-1)) ∧ d.lv off = none)) := fun e w' hp => by
    rcases hp with ⟨rfl, ⟨k, hk, rfl, hl, ho⟩ | ⟨rfl, hno⟩⟩
    · exact ⟨rfl, Or.inl ⟨k, hk, rfl, by rw [← ho]; exact s.lv hF hk hl⟩⟩
    · refine ⟨rfl, Or.inr ⟨rfl, ?_⟩⟩
      cases hl : d.lv off with
      | none => rfl
      | some t =>
        exfalso
        obtain ⟨o, n, e1, e2, hm⟩ := hF.live _ _ hl
        obtain ⟨i, hi, f1, f2⟩ := s.find hm
        refine hno i hi ?_ (by rw [f1, e1])
        rw [s.live hi, f1, ← e1, hl]
        rfl
  have HRES := hide hres
  have HC := hide hC
  clear hres hC h1 s hfo hF
  generalize d.lv off = ol at *
  go_enter Tryz.func29, Tryz.ntmps29
  go_wp2_with fail
  refine hfind.mono ?_
  intro e w1 hp
  obtain ⟨rfl, hor⟩ := HRES.out e w1 hp
  clear hfind hp HRES
  rcases hor with ⟨k, hk, rfl, rfl⟩ | ⟨rfl, rfl⟩
  · obtain ⟨g, rfl, x0, x1, x2, _⟩ := HC.out k hk
    have hk0 : ¬ (k : Int) < 0 := by omega
    clear HC
    go_wp2_with fail
    go_ret2
    exact ⟨by simp [go_sem], rfl⟩
  · clear HC
    go_wp2_with fail
    go_ret2
    exact ⟨rfl, rfl⟩

/-- May these be freed together? -/
def FreeOk (d : AD) (zs : List Int) : Prop := zs.Nodup ∧ ∀ z ∈ zs, (d.lv z).isSome = true
def RFreePost (w : World) (r : Nat) (F : Nat → Prop) (d : AD) (zs : List Int) (e : Ending) (w' : World) : Prop :=
  (FreeOk d zs ∧ e = .returned (.int .i64 0) ∧ ∃ d', Gones d zs d' ∧ RTurned w w' r F d') ∨ (¬ FreeOk d zs ∧ e = .returned (.int .i64 23) ∧ Keeps w w' (fun _ => False))
/-- The first k are good. -/
def GoodTo (d : AD) (zs : List Int) (k : Nat) : Prop := ∀ j (hj : j < zs.length), j < k → (d.lv zs[j]).isSome = true ∧ ∀ i (hi : i < zs.length), i < j → zs[i] ≠ zs[j]
theorem GoodTo.all {d : AD} {zs : List Int} (h : GoodTo d zs zs.length) : FreeOk d zs := by
  refine ⟨List.pairwise_iff_getElem.2 fun i j hi hj hij => (h j hj hj).2 i hi hij, fun z hz => ?_⟩
  obtain ⟨j, hj, rfl⟩ := List.getElem_of_mem hz
  exact (h j hj hj).1
theorem FreeOk.pair {d : AD} {zs : List Int} (h : FreeOk d zs) {i j : Nat} (hi : i < zs.length) (hj : j < zs.length) (hij : i < j) : zs[i] ≠ zs[j] := (List.pairwise_iff_getElem.1 h.1) i j hi hj hij
/-- Is the offset a live block's? by the reference's find -/
theorem find_lv {w w' : World} {d : AD} {xs : List RB} (hF : d.Fine) (s : Sim d xs) {off : Int} {e : Ending} (hp : FindPost w xs off e w') : w' = w ∧ ((∃ k, ∃ hk : k < xs.length, e = .returned (.int .i64 (k : Int)) ∧ xs[k].live = true ∧ (xs[k].off : Int) = off ∧ (d.lv off).isSome = true) ∨ (e = .returned (.int .i64 (-1)) ∧ (d.lv off).isSome = false)) := by
  rcases hp with ⟨rfl, ⟨k, hk, rfl, hl, ho⟩ | ⟨rfl, hno⟩⟩
  · exact ⟨rfl, Or.inl ⟨k, hk, rfl, hl, ho, by rw [← ho, s.lv hF hk hl]; rfl⟩⟩
  · refine ⟨rfl, Or.inr ⟨rfl, ?_⟩⟩
    cases hl : d.lv off with
    | none => rfl
    | some t =>
      exfalso
      obtain ⟨o, n, e1, e2, hm⟩ := hF.live _ _ hl
      obtain ⟨i, hi, f1, f2⟩ := s.find hm
      refine hno i hi ?_ (by rw [f1, e1])
      rw [s.live hi, f1, ← e1, hl]
      rfl
/-- One block is freed, in the memory. -/
theorem gone_step {w wr : World} {r : Nat} {F : Nat → Prop} {d1 : AD} {v : Value} {xs : List RB} (hT : RTurned w wr r F d1) (hF : d1.Fine) (h1 : RAt wr r d1.limit d1.bs.length v xs) (s : Sim d1 xs) (hfo : ∀ k, RFoot r v xs k → F k ∨ w.heap.size ≤ k) {g cap : Nat} (hv : v = .slice (some ⟨g, 0, none⟩) xs.length cap) {k : Nat} (hk : k < xs.length) {z : Int} (hz : (xs[k].off : Int) = z) (hl : xs[k].live = true) :
    ∃ d2, Gone d1 z d2 ∧ RTurned w (wr.setCell ⟨g, k * 3 + 1, none⟩ (.bool false)) r F d2 := by
  have hlv : d1.lv z = some (xs[k].bs.length : Int) := by rw [← hz]; exact s.lv hF hk hl
  have hG : Gone d1 z (d1.gone z xs[k].bs.length) := ⟨_, hlv, rfl⟩
  obtain ⟨S1, K1⟩ := h1.setLive hv hk false
  have hg : F g ∨ w.heap.size ≤ g := hfo g (Or.inr (Or.inl (by rw [hv]; rfl)))
  refine ⟨_, hG, ⟨v, _, ?_, s.gone hF hk hz hG, fun i hi => ?_⟩, hT.2.trans K1 (fun i hi e => ?_)⟩
  · rw [hG.limit, hG.bs]
    exact S1
  · rcases hi with rfl | hi | ⟨j, hj, rfl⟩
    · exact hfo _ (Or.inl rfl)
    · exact hfo _ (Or.inr (Or.inl hi))
    · have hj' : j < xs.length := by simpa using hj
      rw [set_get]
      split
      · exact hfo _ (Or.inr (Or.inr ⟨k, hk, rfl⟩))
      · exact hfo _ (Or.inr (Or.inr ⟨j, hj', rfl⟩))
  · subst e
    rcases hg with e | e
    · exact e
    · omega
end Go.Proofs.YtdlibnjgmdffnaaGreat
/-
  The document's arena: Free.
-/
namespace Go.Proofs.YtdlibnjgmdffnaaGreat
open Go.RowKit Go.Shelf
set_option linter.unusedVariables false

set_option maxRecDepth 100000 in
set_option maxHeartbeats 4000000 in
theorem ref_free {w : World} {r : Nat} {F : Nat → Prop} {d : AD} (h : Ref w r F d) (hF : d.Fine) (a : Option Addr) (cap : Nat) (zs : List Int) (hbig : zs.length ≤ 134217728) (hz : LIn w F a zs) :
    Calls Tryz.prog 47 #[.pointer (some ⟨r, 0, none⟩), .slice a zs.length cap] w fun e w' => RFreePost w r F d zs e w' := by
  have HZ := hide hz
  have HR := hide h
  have HF := hide hF
  clear hz h hF
  go_enter Tryz.func47, Tryz.ntmps47
  go_wp2_with fail
  go_loopw [5] (fun i wr => ∃ k : Nat, k ≤ zs.length ∧ i = .int .i64 (k : Int) ∧ Hid (Keeps w wr (fun _ => False) ∧ GoodTo d zs k)) (fun i _ => zs.length - (intOf i).toNat)
  case atStart => exact ⟨0, Nat.zero_le _, rfl, Keeps.refl _ _, fun j _ hj => by omega⟩
  case round =>
    obtain ⟨k, hk, rfl, hG⟩ := hrel
    by_cases hlt : k < zs.length
    · obtain ⟨b, o, rfl, _, _, x0⟩ := (HZ.out.keeps (hG.out.1.mono (fun _ _ e => e.elim))) k hlt
      have hlt' : (k : Int) < (zs.length : Int) := by omega
      obtain ⟨v, xs, h1, s, hfo⟩ := HR.out.stay hG.out.1
      have hfind := r2find_any h1 (s.few HF.out) zs[k]
      have HS := hide s
      clear h1 s hfo
      go_wp2_with fail
      refine hfind.mono ?_
      intro e w1 hp
      obtain ⟨rfl, hor⟩ := find_lv HF.out HS.out hp
      clear hfind hp HS
      rcases hor with ⟨m, hm, rfl, _, _, hlive⟩ | ⟨rfl, hdead⟩
      · have hm0 : ¬ (m : Int) < 0 := by omega
        have HL := hide hlive
        clear hlive
        go_wp2_with fail
        go_loopw [7] (fun i wr => ∃ j : Nat, j ≤ k ∧ i = .int .i64 (j : Int) ∧ Hid (Keeps w wr (fun _ => False) ∧ ∀ i (hi : i < zs.length), i < j → zs[i] ≠ zs[k])) (fun i _ => k - (intOf i).toNat)
        case atStart => exact ⟨0, Nat.zero_le _, rfl, hG.out.1, fun i _ hi => by omega⟩
        case round =>
          obtain ⟨j, hj, rfl, hJ⟩ := hrel
          by_cases hjk : j < k
          · have hjk' : (j : Int) < (k : Int) := by omega
            have hjl : j < zs.length := by omega
            have hjl' : (j : Int) < (zs.length : Int) := by omega
            obtain ⟨b1, o1, he1, _, _, y0⟩ := (HZ.out.keeps (hJ.out.1.mono (fun _ _ e => e.elim))) j hjl
            obtain ⟨b2, o2, he2, _, _, y1⟩ := (HZ.out.keeps (hJ.out.1.mono (fun _ _ e => e.elim))) k hlt
            cases he1
            cases he2
            have hnb := hide (fun (hok : FreeOk d zs) => hok.pair hjl hlt hjk)
            by_cases he : zs[j] = zs[k]
            · have hbad : Hid (¬ FreeOk d zs) := fun hok => hnb.out hok he
              have hq : (zs[j] == zs[k]) = true := by simpa using he
              clear hnb x0 HL he
              generalize zs[j] = p at *
              generalize zs[k] = q at *
              go_wp2_with fail
              go_quiet (fail)
              go_wp2_with fail
              go_ret
              exact Or.inr ⟨hbad.out, rfl, by have q := hJ.out.1; exact ⟨q.os, q.tape, q.output, q.size, q.block⟩⟩
            · have hq : (zs[j] == zs[k]) = false := beq_eq_false_iff_ne.2 he
              have HN : Hid (∀ i (hi : i < zs.length), i < j + 1 → zs[i] ≠ zs[k]) := fun i hi hij => by
                rcases Nat.lt_or_ge i j with h2 | h2
                · exact hJ.out.2 i hi h2
                · obtain rfl : i = j := by omega
                  exact he
              have HK := hide hJ.out.1
              clear hnb x0 HL hJ
              generalize zs[j] = p at *
              go_wp2_with fail
              go_quiet (fail)
              go_wp2_with fail
              go_roundw
              case rel => exact ⟨j + 1, by omega, by go_num, (by have q := HK.out; exact ⟨q.os, q.tape, q.output, q.size, q.block⟩), HN.out⟩
              case measure => simp [intOf]; omega
          · obtain rfl : j = k := by omega
            have hjk' : ¬ (j : Int) < (j : Int) := by omega
            have HN : Hid (GoodTo d zs (j + 1)) := fun i hi hij => by
              rcases Nat.lt_or_ge i j with h2 | h2
              · exact hG.out.2 i hi h2
              · obtain rfl : i = j := by omega
                exact ⟨HL.out, fun t ht htj => hJ.out.2 t ht htj⟩
            go_wp2_with fail
            go_roundw
            case rel => exact ⟨j + 1, by omega, by go_num, hJ.out.1, HN.out⟩
            case measure => simp [intOf]; omega
      · have hfin : Hid (RFreePost w r F d zs (.returned (.int .i64 23)) w1) := (show RFreePost _ _ _ _ _ _ _ from Or.inr ⟨fun hok => (by have := hok.2 _ (List.getElem_mem hlt); rw [hdead] at this; cases this), rfl, hG.out.1⟩)
        clear hdead x0 hG
        generalize zs[k] = q at *
        go_wp2_with fail
        go_ret
        exact hfin.out
    · obtain rfl : k = zs.length := by omega
      have hok : Hid (FreeOk d zs) := hG.out.2.all
      have hlt' : ¬ (zs.length : Int) < (zs.length : Int) := by omega
      have HT0 : Hid (RTurned w wr r F d) := (show RTurned _ _ _ _ _ from ⟨(HR.out.stay hG.out.1).mono (fun i _ e => Or.inl e), hG.out.1.mono (fun _ _ e => e.elim)⟩)
      go_wp2_with fail
      go_loopw [8] (fun i wr => ∃ k : Nat, k ≤ zs.length ∧ i = .int .i64 (k : Int) ∧ Hid (∃ d1, Gones d (zs.take k) d1 ∧ RTurned w wr r F d1)) (fun i _ => zs.length - (intOf i).toNat)
      case atStart => exact ⟨0, Nat.zero_le _, rfl, (show ∃ d1, Gones d (zs.take 0) d1 ∧ RTurned w _ r F d1 from ⟨d, rfl, HT0.out⟩)⟩
      case round =>
        clear HT0 hG
        obtain ⟨k, hk, rfl, hD⟩ := hrel
        obtain ⟨d1, hgs, hT⟩ := hD.out
        have HT := hide hT
        have HGS := hide hgs
        by_cases hlt : k < zs.length
        · obtain ⟨b, o, rfl, _, _, x0⟩ := (HZ.out.keeps hT.2) k hlt
          have hlt' : (k : Int) < (zs.length : Int) := by omega
          obtain ⟨v, xs, h1, s, hfo⟩ := hT.1
          have hF1 := HF.out.gones hgs
          have hn1 := s.few hF1
          have hfind := r2find_any h1 hn1 zs[k]
          have hlv1 : (d1.lv zs[k]).isSome = true := by
            rw [hgs.lv, if_neg (fun e => ?_)]
            · exact hok.out.2 _ (List.getElem_mem hlt)
            · obtain ⟨i, hi, e⟩ := List.getElem_of_mem e
              rw [List.getElem_take] at e
              rw [List.length_take] at hi
              exact hok.out.pair (i := i) (j := k) (by omega) hlt (by omega) e
          have c2 := h1.cell2
          obtain ⟨so, cap', rfl, hcap, hC⟩ := h1.list
          have HC := hide hC
          have HF1 := hide hF1
          have HS := hide s
          have H1 := hide h1
          have HFO := hide hfo
          have HLV := hide hlv1
          clear h1 s hfo hC hF1 hlv1 hT hgs hD
          go_wp2_with fail
          refine hfind.mono ?_
          intro e w1 hp
          obtain ⟨rfl, hor⟩ := find_lv HF1.out HS.out hp
          clear hfind hp
          rcases hor with ⟨m, hm, rfl, hl, ho, _⟩ | ⟨rfl, hdead⟩
          · obtain ⟨g, rfl, _, y1, _, hfz⟩ := HC.out m hm
            have hm0 : (0 : Int) ≤ (m : Int) := by omega
            have hm1 : (m : Int) < (xs.length : Int) := by omega
            obtain ⟨d2, hG2, hT2⟩ := gone_step HT.out HF1.out H1.out HS.out HFO.out rfl hm ho hl
            have HN : Hid (∃ d1, Gones d (zs.take (k + 1)) d1 ∧ RTurned w (w1.setCell ⟨g, m * 3 + 1, none⟩ (.bool false)) r F d1) := (show ∃ d1, _ from ⟨d2, by rw [List.take_succ_eq_append_getElem hlt]; exact HGS.out.snoc hG2, hT2⟩)
            have f1 := hfz (m * 3 + 1)
            clear hG2 hT2 ho hl hfz HC HS H1 HFO HT HGS HLV x0
            generalize zs[k] = q at *
            generalize xs[m].live = lq at *
            go_wp2_with fail
            go_roundw
            case rel => exact ⟨k + 1, by omega, by go_num, HN⟩
            case measure => simp [intOf]; omega
          · exfalso
            have := HLV.out
            rw [hdead] at this
            cases this
        · obtain rfl : k = zs.length := by omega
          have hfin : Hid (RFreePost w r F d zs (.returned (.int .i64 0)) wr) := (show RFreePost _ _ _ _ _ _ _ from Or.inl ⟨hok.out, rfl, d1, by have q := HGS.out; rwa [List.take_length] at q, HT.out⟩)
          clear hT hgs hD HT HGS
          go_wp2_with fail
          go_ret
          exact hfin.out
end Go.Proofs.YtdlibnjgmdffnaaGreat
