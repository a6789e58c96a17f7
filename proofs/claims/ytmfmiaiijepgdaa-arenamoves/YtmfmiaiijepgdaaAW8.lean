import Derived.Test.YtmfmiaiijepgdaaAW7
namespace Go.Proofs.Ytmfmiaiijepgdaa
open Go.RowKit Go.Shelf

/-- make of n ints. -/
theorem run_make_ints {P : Program} (w : World) (t : TypeId) (hu : P.underlying t = some (.slice 3)) (hi : (P.info? 3).map (fun i => (i.zero, i.size, i.bytes)) = some (some (.int .i64 0), 1, 8)) (n : Nat) (hn : n ≤ 134217728) :
    (Instr.makeSlice t (.int .i64 (n : Int)) (.int .i64 (n : Int))).run P w = .ok (.slice (some ⟨w.heap.size, 0, none⟩) n n) (w.alloc (.cells (offRow n []) 3)) := by
  obtain ⟨i, h1, h2, h3, h4⟩ := info_parts hi
  have h := run_make (P := P) w t 3 i (.int .i64 0) hu h1 h2 .i64 .i64 (n : Int) (n : Int) (by omega) (by omega) (by rw [h4]; omega) (by omega)
  rw [h, h3]
  simp only [Int.toNat_natCast, offRow_zero]

theorem allOne_fits_zero {d : AD} {zs : List Int} (ha : allOne zs) (hf : fitsIn ((d.limit : Int) - (d.used : Int)) zs = true) : refE d zs = 0 := by
  unfold refE
  rw [if_pos ha, if_pos hf]

/-- Behind k of them. -/
def AllRel (T : AD → Nat → Nat × AD) (w : World) (p : Nat) (F : Nat → Prop) (d : AD) (zs : List Int) (H k : Nat) (wr : World) : Prop :=
  wr.heap[H]? = some (.cells (offRow zs.length (takeAll T d (zs.take k)).1) 3) ∧ Arena wr p (fun x => (F x ∨ w.heap.size ≤ x) ∧ x ≠ H) (takeAll T d (zs.take k)).2 ∧ Keeps w wr F
theorem AllRel.step {T : AD → Nat → Nat × AD} {w wr w2 : World} {p : Nat} {F : Nat → Prop} {d : AD} {zs : List Int} {H k : Nat} (hR : AllRel T w p F d zs H k wr) (hH : w.heap.size ≤ H) (hk : k < zs.length)
    (ht : Turned wr w2 p (fun x => (F x ∨ w.heap.size ≤ x) ∧ x ≠ H) (T (takeAll T d (zs.take k)).2 (classI zs[k]).toNat).2) :
    w2.cell? ⟨H, k, none⟩ = some (.int .i64 0) ∧ w2.frozen? ⟨H, k, none⟩ = false ∧ AllRel T w p F d zs H (k + 1) (w2.setCell ⟨H, k, none⟩ (.int .i64 ((T (takeAll T d (zs.take k)).2 (classI zs[k]).toNat).1 : Int))) := by
  obtain ⟨r1, r2, r3⟩ := hR
  obtain ⟨a2, k2⟩ := ht
  have hHlt := heap_lt r1
  have r1' := (k2.block H hHlt (fun e => e.2 rfl)).trans r1
  have hlen : (takeAll T d (zs.take k)).1.length = k := by rw [takeAll_length, List.length_take]; omega
  have hz : (offRow zs.length (takeAll T d (zs.take k)).1)[k]? = some (.int .i64 0) := by
    obtain ⟨m, hm⟩ : ∃ m, zs.length - k = m + 1 := ⟨zs.length - k - 1, by omega⟩
    simp [offRow, hlen, hm, List.replicate_succ, cellI]
  refine ⟨by simp only [World.cell?, r1']; simpa using hz, by simp [World.frozen?, r1'], ?_, ?_, ?_⟩
  · rw [List.take_succ_eq_append_getElem hk, takeAll_snoc]
    have hs := setCell_eq_setRow w2 H k _ 3 (0, 0) (.int .i64 ((T (takeAll T d (zs.take k)).2 (classI zs[k]).toNat).1 : Int)) r1'
    rw [hs, heap_setRow_same r1']
    have := offRow_set (n := zs.length) (xs := (takeAll T d (zs.take k)).1) ((T (takeAll T d (zs.take k)).2 (classI zs[k]).toNat).1 : Int) (by omega)
    rw [hlen] at this
    rw [← this]
    rfl
  · rw [List.take_succ_eq_append_getElem hk, takeAll_snoc]
    have kS : Keeps w2 (w2.setCell ⟨H, k, none⟩ (.int .i64 ((T (takeAll T d (zs.take k)).2 (classI zs[k]).toNat).1 : Int))) (fun x => x = H) := (Keeps.refl w2 (fun x => x = H)).setCell ⟨H, k, none⟩ (fun _ => rfl) _
    have a3 := a2.keeps kS (fun i _ hi e => by
      rcases hi with hi | hi
      · exact hi.2 e
      · omega)
    refine a3.mono (fun i _ hi => ?_)
    rcases hi with hi | hi
    · exact hi
    · exact ⟨Or.inr (by have := r3.size; omega), by omega⟩
  · have kS : Keeps w2 (w2.setCell ⟨H, k, none⟩ (.int .i64 ((T (takeAll T d (zs.take k)).2 (classI zs[k]).toNat).1 : Int))) (fun x => x = H) := (Keeps.refl w2 (fun x => x = H)).setCell ⟨H, k, none⟩ (fun _ => rfl) _
    exact (r3.trans k2 (fun i hi e => by
      rcases e.1 with e1 | e1
      · exact e1
      · omega)).trans kS (fun i hi e => by omega)

set_option maxHeartbeats 2000000 in
theorem allocAll_some {T : AD → Nat → Nat × AD} {G : AD → Prop} (hT : TakeOK T G) {w : World} {p : Nat} {F : Nat → Prop} {d : AD} (h : Arena w p F d) (hG : G d) (hF : d.Fine) (b o cap : Nat) (zs : List Int) (hz : ∀ j (h : j < zs.length), w.cell? ⟨b, o + j, none⟩ = some (.int .i64 zs[j]))
    (hb : ¬ F b) (hbl : b < w.heap.size) (h0 : 0 < zs.length) (ha : Hid (allOne zs)) (hf : Hid (fitsIn ((d.limit : Int) - (d.used : Int)) zs = true)) :
    Calls Try.prog 17 #[.pointer (some ⟨p, 0, none⟩), .slice (some ⟨b, o, none⟩) zs.length cap] w fun e w' => AllPost w p F (takeAll T d zs).1 (takeAll T d zs).2 e w' := by
  have hlen := fitsIn_len zs _ hf.out ha.out (by have := hF.use; omega)
  have hlim := hF.lim
  have hbig : zs.length ≤ 134217728 := by omega
  have hR : Calls Try.prog 34 #[.pointer (some ⟨p, 0, none⟩), .slice (some ⟨b, o, none⟩) zs.length cap] w fun e w' => RefPost w 0 e w' := by
    obtain ⟨c, hc, _⟩ := h
    have := refused_any hc hF (some ⟨b, o, none⟩) cap zs (by omega) (fun j hj => ⟨b, o, rfl, hz j hj⟩)
    rwa [allOne_fits_zero ha.out hf.out] at this
  go_enter Try.func17, Try.ntmps17
  go_wp2_with fail
  refine hR.mono ?_
  rintro e w1 ⟨rfl, k1⟩
  clear hR
  have hmk := run_make_ints (P := Try.prog) w1 34 Try.underlying34 Try.infoI zs.length hbig
  have hrel0 : AllRel T w p F d zs w1.heap.size 0 (w1.alloc (.cells (offRow zs.length []) 3)) := by
    refine ⟨heap_alloc_new _ _, ?_, (k1.mono (fun _ _ e => e.elim)).alloc _⟩
    have k2 : Keeps w (w1.alloc (.cells (offRow zs.length []) 3)) (fun _ => False) := k1.alloc _
    have hs1 := k1.size
    exact (h.mono (G := fun x => (F x ∨ w.heap.size ≤ x) ∧ x ≠ w1.heap.size) (fun i hi hFi => ⟨Or.inl hFi, by omega⟩)).keeps k2 (fun _ _ _ e => e)
  have hH := k1.size
  go_wp2_with fail
  go_loopw [21] (fun i wr => ∃ k : Nat, i = .int .i64 (k : Int) ∧ k ≤ zs.length ∧ AllRel T w p F d zs w1.heap.size k wr) (fun i _ => zs.length - (intOf i).toNat)
  case atStart => exact ⟨0, rfl, Nat.zero_le _, hrel0⟩
  case round =>
    obtain ⟨k, rfl, hk, hR⟩ := hrel
    clear hrel0 hmk
    by_cases hlt : k < zs.length
    · have hlt' : (k : Int) < (zs.length : Int) := by omega
      have hck := (World.cell?_of_block (w := w) (a := ⟨b, o + k, none⟩) (hR.2.2.block b hbl hb)).trans (hz k hlt)
      obtain ⟨n1, n2, n3, n4⟩ := takeAll_next hT hG hF ha.out hf.out hlt
      obtain ⟨f1, f2, f3, f4⟩ := takeAll_take hT hG hF ha.out hf.out k hk
      have hfin := (hT.fine _ f2 f1 n1 n2 n3).2.2.2.2
      have hTk := hT.call (w := wr) (p := p) (F := fun x => (F x ∨ w.heap.size ≤ x) ∧ x ≠ w1.heap.size) (classI zs[k]).toNat f2 f1 hR.2.1 n1 n2 n3
      have hst := fun w2 => hR.step (w2 := w2) hH hlt
      have hcl := class_any zs[k] wr
      rw [n4] at hcl
      clear hz n4 f1 f2 f3 f4 n3 ha hf
      generalize (classI zs[k]).toNat = cz at *
      generalize zs[k]'hlt = z at *
      go_wp2_with fail
      refine hcl.mono ?_
      rintro e w2 ⟨rfl, rfl⟩
      clear hcl
      go_wp2_with fail
      refine hTk.mono ?_
      rintro e w3 ⟨rfl, ht⟩
      clear hTk
      obtain ⟨s1, s2, s3⟩ := hst w3 ht
      clear hst ht hR hck
      generalize (T (takeAll T d (zs.take k)).2 cz).1 = off at *
      go_wp2_with fail
      go_roundw
      case rel => exact ⟨k + 1, by go_num, by omega, s3⟩
      case measure => simp [intOf]; omega
    · have hlt' : ¬ (k : Int) < (zs.length : Int) := by omega
      have hfin : AllPost w p F (takeAll T d zs).1 (takeAll T d zs).2 (.returned (.tuple #[.slice (some ⟨w1.heap.size, 0, none⟩) zs.length zs.length, .int .i64 0])) wr := by
        obtain ⟨r1, r2, r3⟩ := hR
        have hkz : zs.take k = zs := List.take_of_length_le (by omega)
        rw [hkz] at r1 r2
        refine ⟨w1.heap.size, hH, by rw [takeAll_length], ?_, r2, r3⟩
        rw [r1]
        have := offRow_full (takeAll T d zs).1
        rw [takeAll_length] at this
        rw [this]
      clear hR hz
      go_wp2_with fail
      go_ret2
      exact hfin
end Go.Proofs.Ytmfmiaiijepgdaa
