import Derived.Test.YtlgmpnaalifegabWalks32
namespace Go.Proofs.Ytlgmpnaalifegab
open Go.RowKit

theorem Laid.keeps {E TB : TypeId} {B : Nat} {w w' : World} {gl cl : Nat} {wv : Value} {xs : List (List UInt8)} {hs : List Nat} {vs ws : List Value} {bh : Nat} {S : Nat → Prop} (L : Laid E TB B w gl cl wv xs hs vs ws bh) (k : Keeps w w' S) (h : ∀ i, B ≤ i → i < w.heap.size → ¬ S i) : Laid E TB B w' gl cl wv xs hs vs ws bh := by
  refine ⟨ownsRow_keeps L.ol k (fun g hg => ?_), ownsRow_keeps L.ow k (fun g hg => ?_), L.apart, L.len, L.nodup, fun j hj => ?_, ?_, L.behB, L.behN⟩
  · have := ownsRow_block L.ol hg
    exact h g this.1 (own_lt L.ol hg)
  · have := ownsRow_block L.ow hg
    exact h g this.1 (own_lt L.ow hg)
  · obtain ⟨hb, c1, c2, y, f, e1, e2, e3, e4, e5, e6⟩ := L.part j hj
    exact ⟨hb, c1, c2, y, f, e1, e2, e3, e4, (k.block hb (heap_lt e5) (h hb e4 (heap_lt e5))).trans e5, e6⟩
  · obtain ⟨f, e⟩ := L.beh
    exact ⟨f, (k.block bh (heap_lt e) (h bh L.behB (heap_lt e))).trans e⟩

/-- Write on both: the same answer. -/
def WriteMem (b g : Nat) (bs sp : List UInt8) (A : Int) (x : List UInt8) (w : World) (e : Ending) (w' : World) : Prop :=
  (insideB bs.length A x.length = false ∧ e = .returned (.int .i64 11) ∧ w' = w) ∨ (∃ q : Nat, A = q ∧ q + x.length ≤ bs.length ∧ WritePost w b g (splice bs q x) sp e w')
theorem write_mem (w : World) (b g gl cl : Nat) (bs sp : List UInt8) (xs : List (List UInt8)) (m : MemAt 60 5 w b g bs sp) (o : Int) (hx : xs.length ≤ 140737488355328) (ps : PartsAt w g gl xs) :
    Calls Try.prog 8 #[.pointer (some ⟨b, 0, none⟩), .int .i64 o, .slice (some ⟨gl, 0, none⟩) xs.length cl] w fun e w' => WriteMem b g bs sp o (catAll xs) w e w' := by
  cases h : insideB bs.length o 0
  · refine (write_out w b g bs sp m o _ h).mono fun e w' h' => Or.inl ⟨?_, h'⟩
    have := insideB_false h
    exact decide_eq_false (by omega)
  · obtain ⟨q, k, rfl, _, hq⟩ := insideB_nat h
    by_cases h1 : q + (catAll xs).length ≤ bs.length
    · exact (write_yes w b g gl cl bs sp xs m q hx ps h1).mono fun e w' h' => Or.inr ⟨q, rfl, h1, h'⟩
    · exact (write_no w b g gl cl bs sp xs m q (by omega) hx ps (by omega)).mono fun e w' h' => Or.inl ⟨decide_eq_false (by omega), h'⟩

set_option maxRecDepth 100000 in
set_option maxHeartbeats 2000000 in
theorem plays_write {B : Nat} {w : World} {b rb : Nat} {F : Nat → Prop} {bs : List UInt8} {xs : List ActD} {g : Nat} {sp : List UInt8} {av : Value} (p : PairAt B w b rb F bs xs g sp av) (hB : B ≤ w.heap.size) (hn : xs.length < 1048576) (mm A C N : Int) (V : Nat) (ao : Option Addr) (cap : Nat) (ts : List ByteArray) (hts : StrsAt w B ao ts) (htn : ts.length ≤ 1048576) (htz : ∀ t ∈ ts, t.size ≤ 1048576) (hc : (catAll (bytesOf ts)).length ≤ 1048576) :
    Calls Try.prog 21 #[.pointer (some ⟨b, 0, none⟩), .pointer (some ⟨rb, 0, none⟩), opArg 9 mm A C N V ao ts.length cap] w fun e w' => PlaysPost B w b rb F xs e w' := by
  have k1 : Keeps w (w.alloc (.cells (opCells 9 mm A C N V ao ts.length cap) 47)) (fun _ => False) := (Keeps.refl _ _).alloc _
  have hts1 : StrsAt (w.alloc (.cells (opCells 9 mm A C N V ao ts.length cap) 47)) B ao ts := hts.keeps hB (k1.mono (fun _ _ x => x.elim))
  have hro := roomy_any _ ao cap ts (hts1.mono (Nat.le_trans hB k1.size)) htn htz
  have hnew := heap_alloc_new w (.cells (opCells 9 mm A C N V ao ts.length cap) 47)
  have P : Hid (PairAt B w b rb F bs xs g sp av) := p
  unfold opCells at k1 hro hnew
  clear p hts1
  go_enter Try.func21, Try.ntmps21
  go_wp2_with fail
  refine hro.mono ?_
  rintro e w2 ⟨gl, cl, wv, hs, vs, ws, bh, rfl, L, k2⟩
  clear hro
  have hbl := bytesOf_length ts
  have hblk := (k2.block w.heap.size (heap_lt hnew) (by simp)).trans hnew
  have hblk1 : w2.drew.heap[w.heap.size]? = some (.cells #[.int .i64 9, .int .i64 mm, .int .i64 A, .int .i64 C, .int .i64 N, .int .u64 (V : Int), .slice ao ts.length cap] 47) := hblk
  have c6 : w2.cell? ⟨w.heap.size, 6, none⟩ = some (.slice ao ts.length cap) := by simp [World.cell?, hblk]
  have kw2 : Keeps w w2.drew (fun k => w.heap.size ≤ k) := ((k1.mono (fun _ _ x => x.elim)).trans k2 (fun i hi x => by have := k1.size; omega)).drew
  have p2 := P.out.keeps kw2 (fun i hi => by have := (P.out.low i hi).1; omega)
  have hgw : g < w.heap.size := heap_lt P.out.m.hg
  have hbw : b < w.heap.size := heap_lt P.out.m.hb
  have hrw : rb < w.heap.size := heap_lt P.out.r.hb
  have hB2 : B ≤ w2.drew.heap.size := Nat.le_trans hB kw2.size
  have hs1 := k1.size
  have hm := write_mem w2.drew b g gl cl bs sp (bytesOf ts) p2.m A (by omega) ((L.keeps ((Keeps.refl w2 (fun _ => False)).drew) (fun _ _ _ => id)).parts (fun x hx => by
    obtain ⟨t, ht, rfl⟩ := List.mem_map.1 hx
    have := htz t ht
    simp
    omega) (Nat.lt_of_lt_of_le hgw hs1))
  have hr := fun w3 (K3 : Keeps w2.drew w3 (fun k => k = b ∨ k = g)) => rwrite_any (pair_mid p2 K3) hn (Nat.le_trans hB2 K3.size) A ao cap ts ((hts.keeps hB ((kw2.mono (fun i _ x => Nat.le_trans hB x)).trans K3 (fun i hi x => x.elim (fun e => e ▸ (P.out.low _ P.out.fb).2) (fun e => e ▸ (P.out.low _ P.out.fg).2)))).mono (Nat.le_trans hB2 K3.size)) htn hc
  obtain ⟨vv, M, hm1, hr1⟩ : ∃ (vv : Int) (M : World → Prop),
      Calls Try.prog 8 #[.pointer (some ⟨b, 0, none⟩), .int .i64 A, .slice (some ⟨gl, 0, none⟩) (bytesOf ts).length cl] w2.drew (fun e w3 => e = .returned (.int .i64 vv) ∧ Keeps w2.drew w3 (fun k => k = b ∨ k = g) ∧ Hid (M w3)) ∧
      ∀ w3, Keeps w2.drew w3 (fun k => k = b ∨ k = g) → Hid (M w3) → Calls Try.prog 38 #[.pointer (some ⟨rb, 0, none⟩), .int .i64 A, .slice ao ts.length cap] w3 (fun e w4 => e = .returned (.int .i64 vv) ∧ Hid (PlaysPost B w2.drew b rb F xs (.returned (.bool true)) w4) ∧ Keeps w3 w4 (fun k => k = rb ∨ av.ownBlock = some k)) := by
    cases hi : insideB bs.length A (catAll (bytesOf ts)).length
    · refine ⟨11, fun w3 => w3 = w2.drew, hm.mono (fun e w' h => ?_), fun w3 K3 hM => ?_⟩
      · rcases h with h | ⟨q, rfl, hq, _⟩
        · exact ⟨h.2.1, by rw [h.2.2]; exact Keeps.refl _ _, h.2.2⟩
        · rw [insideB_mk hq] at hi
          cases hi
      · have hM' : w3 = w2.drew := hM.out
        subst hM'
        refine (hr w2.drew (Keeps.refl _ _)).mono (fun e w' h => ?_)
        rcases h with h | ⟨q, rfl, hq, _⟩
        · exact ⟨h.2.1, by rw [h.2.2]; exact plays_same p2 (Keeps.refl _ _), by rw [h.2.2]; exact Keeps.refl _ _⟩
        · rw [insideB_mk hq] at hi
          cases hi
    · obtain ⟨q, n, rfl, hnn, hq⟩ := insideB_nat hi
      have hqn : q + (catAll (bytesOf ts)).length ≤ bs.length := by omega
      refine ⟨0, fun w3 => MemAt 60 5 w3 b g (splice bs q (catAll (bytesOf ts))) sp, hm.mono (fun e w' h => ?_), fun w3 K3 hM => (hr w3 K3).mono (fun e w' h => ?_)⟩
      · rcases h with ⟨h, _⟩ | ⟨q', hqq, _, h1, h2, h3⟩
        · rw [h] at hi
          cases hi
        · obtain rfl : q = q' := by omega
          exact ⟨h1, h3.mono (fun _ _ x => Or.inr x), h2⟩
      · rcases h with ⟨h, _⟩ | ⟨q', hqq, _, h1, av3, h2, h3, h4⟩
        · rw [h] at hi
          cases hi
        · obtain rfl : q = q' := by omega
          exact ⟨h1, pair_step p2 K3 hM.out (Or.inl rfl) h3 (by rw [splice_length hqn]; exact h2) h4 (told_splice p2.t ⟨2, q, (catAll (bytesOf ts)).length, 0, 0, strOf (catAll (bytesOf ts))⟩ (catAll (bytesOf ts)) hqn rfl (fun j hj => by simp [strOf])) hB2 (by simp), h3⟩
  have hvb : (vv == vv) = true := by simp
  rw [hbl] at hm1
  have hcut := fun W => run_head (P := Try.prog) W 27 30 Try.underlying27 Try.infoB gl (ts.length + 1) cl ts.length (by
    rcases L.ol.2 with ⟨e, _⟩ | ⟨g0, c0, cur, e, _, _, h1, _⟩
    · cases e
    · injection e with _ _ e
      omega)
  have s1 : w2.drew.cell? ⟨w.heap.size, 2, none⟩ = some (.int .i64 A) ∧ w2.drew.cell? ⟨w.heap.size, 6, none⟩ = some (.slice ao ts.length cap) := by simp [World.cell?, hblk1]
  have s2 := fun w3 (K3 : Keeps w2.drew w3 (fun k => k = b ∨ k = g)) => (show w3.cell? ⟨w.heap.size, 2, none⟩ = some (.int .i64 A) ∧ w3.cell? ⟨w.heap.size, 6, none⟩ = some (.slice ao ts.length cap) by
    have := op_kept hblk1 K3 (by rintro (e | e) <;> omega)
    simp [World.cell?, this])
  have hown : ∀ k, av.ownBlock = some k → k < w.heap.size := fun k hk => own_lt P.out.r.own hk
  have s3 := fun w3 (K3 : Keeps w2.drew w3 (fun k => k = b ∨ k = g)) w4 (K4 : Keeps w3 w4 (fun k => k = rb ∨ av.ownBlock = some k)) => (show w4.cell? ⟨w.heap.size, 2, none⟩ = some (.int .i64 A) ∧ w4.cell? ⟨w.heap.size, 6, none⟩ = some (.slice ao ts.length cap) by
    have := op_kept (op_kept hblk1 K3 (by rintro (e | e) <;> omega)) K4 (by
      rintro (e | e)
      · omega
      · have := hown _ e
        omega)
    simp [World.cell?, this])
  clear hown hm hr hblk hblk1
  go_wp2_with fail
  go_region_held3 (fun w' => w'.cell? ⟨w.heap.size, 2, none⟩ = some (.int .i64 A) ∧ w'.cell? ⟨w.heap.size, 6, none⟩ = some (.slice ao ts.length cap)) (first | exact s1 | exact s2 _ K3 | exact s3 _ K3 _ K4) (first | (go_at_call 8; refine hm1.mono ?_; rintro e w3 ⟨rfl, K3, hM⟩) | (go_at_call 38; refine (hr1 _ K3 hM).mono ?_; rintro e w4 ⟨rfl, hpost, K4⟩))
  obtain ⟨kF, hlow⟩ : Keeps w2.drew w4 F ∧ ∀ i, F i → i < w.heap.size := by
    obtain ⟨_, _, _, _, _, _, _, _, hk, _⟩ := hpost.out
    exact ⟨hk, fun i hi => (P.out.low i hi).1⟩
  have L4 := (L.keeps ((Keeps.refl w2 (fun _ => False)).drew) (fun _ _ _ => id)).keeps kF (fun i hi _ hF => by have := hlow i hF; omega)
  have hb4 : w4.cell? ⟨w.heap.size, 6, none⟩ = some (.slice ao ts.length cap) := (s3 _ K3 _ K4).2
  have hts4 : StrsAt w4 B ao ts := hts.keeps hB ((kw2.mono (fun i _ x => Nat.le_trans hB x)).trans kF (fun i _ x => (P.out.low i x).2))
  have kw4 : Keeps w w4 (fun k => F k ∨ w.heap.size ≤ k) := (kw2.mono (fun i _ x => Or.inr x)).trans kF (fun i _ x => Or.inl x)
  have hvl := L4.vlen
  have hcn : w4.cell? ⟨gl, ts.length, none⟩ = some (.slice (some ⟨bh, 0, none⟩) 6 6) := by
    have := L4.ol.cells (g := gl) rfl ts.length (.slice (some ⟨bh, 0, none⟩) 6 6) (by rw [List.getElem?_append_right (by omega), hvl, hbl, Nat.sub_self]; rfl)
    rwa [addr_add, Nat.zero_add] at this
  obtain ⟨fb, hbr⟩ := L4.beh
  have hbt : (convert 30 9 (.slice (some ⟨bh, 0, none⟩) 6 6)).run Try.prog w4 = .ok (.string ⟨#[98, 101, 104, 105, 110, 100]⟩) w4 := row_text (w := w4) (x := behindRow) (y := []) (by rw [List.append_nil]; exact hbr) rfl rfl
  have hslt : ∀ x, x ∈ hs → x < w2.heap.size := fun x hx => by
    obtain ⟨j, hj, rfl⟩ := List.mem_iff_getElem.1 hx
    obtain ⟨hb, c1, c2, y, f, e1, e2, e3, e4, e5, e6⟩ := L.part j (by rw [← L.len]; exact hj)
    rw [List.getElem?_eq_getElem hj] at e1
    injection e1 with e1
    subst e1
    exact heap_lt e5
  obtain ⟨wo, cw, hwv⟩ : ∃ wo cw, wv = .slice wo ts.length cw := by
    rcases L4.ow.2 with ⟨e, h0⟩ | ⟨gw, cw, _, e, _⟩
    · exact ⟨none, 0, by rw [e, ← hbl, h0]⟩
    · exact ⟨some ⟨gw, 0, none⟩, cw, by rw [e, hbl]⟩
  subst hwv
  clear s1 s2 s3 hm1 hr1 K3 K4 hM hcut c6 p2 L hts hvb
  go_wp2_with fail
  clear hcn hbt hbr
  go_loopw [128] (fun i wr => ∃ k : Nat, k ≤ ts.length ∧ i = .int .i64 (k : Int) ∧ Keeps w4 wr (fun x => x ∈ hs.take k)) (fun i _ => ts.length - (intOf i).toNat)
  case atStart => exact ⟨0, Nat.zero_le _, rfl, Keeps.refl _ _⟩
  case round =>
    obtain ⟨k, hk, rfl, K⟩ := hrel
    have hrow5 : ∀ x, x ∈ hs → ∃ c f, w4.heap[x]? = some (.cells c 5 f) ∧ w.heap.size < x := fun x hx => by
      obtain ⟨j, hj, rfl⟩ := List.mem_iff_getElem.1 hx
      obtain ⟨hb, c1, c2, y, f, e1, e2, e3, e4, e5, e6⟩ := L4.part j (by rw [← L4.len]; exact hj)
      rw [List.getElem?_eq_getElem hj] at e1
      injection e1 with e1
      subst e1
      exact ⟨_, _, e5, by simp at e4; omega⟩
    by_cases hlt : k < ts.length
    · have hgl : wr.heap[gl]? = w4.heap[gl]? := K.block gl (own_lt L4.ol rfl) (fun hx => by
        obtain ⟨c, f, e, _⟩ := hrow5 gl (List.mem_of_mem_take hx)
        obtain ⟨_, cur, e2⟩ := ownsRow_block L4.ol (g := gl) rfl
        rw [e2] at e
        injection e with e
        injection e with _ e
        exact absurd e (by decide))
      obtain ⟨gw, cw', hwo⟩ : ∃ gw cw', Value.slice wo ts.length cw = .slice (some ⟨gw, 0, none⟩) ts.length cw' := by
        obtain ⟨gw, cw', e, _⟩ := L4.ow.form (by omega)
        exact ⟨gw, cw', by rw [e, hbl]⟩
      injection hwo with hwo1 _ hwo2
      subst hwo1 hwo2
      have hgw4 : wr.heap[gw]? = w4.heap[gw]? := K.block gw (own_lt L4.ow rfl) (fun hx => by
        obtain ⟨c, f, e, _⟩ := hrow5 gw (List.mem_of_mem_take hx)
        obtain ⟨_, cur, e2⟩ := ownsRow_block L4.ow (g := gw) rfl
        rw [e2] at e
        injection e with e
        injection e with _ e
        exact absurd e (by decide))
      obtain ⟨hb, c1, c2, y, f, e1, e2, e3, e4, e5, e6⟩ := L4.part k (by omega)
      have hbe : hs[k]'(by rw [L4.len]; omega) = hb := by
        rw [List.getElem?_eq_getElem (by rw [L4.len]; omega)] at e1
        injection e1
      have hbn : hb ∉ hs.take k := fun hx => by
        obtain ⟨j, hj, e⟩ := List.mem_iff_getElem.1 hx
        have hj' : j < k := by simp at hj; omega
        have hkl : k < hs.length := by rw [L4.len]; omega
        rw [List.getElem?_eq_getElem hkl] at e1
        injection e1 with e1
        rw [List.getElem_take, ← e1] at e
        have := (List.getElem_inj L4.nodup).1 e
        omega
      have hrow := (K.block hb (heap_lt e5) hbn).trans e5
      have hbx : (bytesOf ts)[k]'(by omega) = (ts[k]).data.toList := by simp [bytesOf]
      have cgl : wr.cell? ⟨gl, k, none⟩ = some (.slice (some ⟨hb, 0, none⟩) (ts[k]).size c1) := by
        have := L4.ol.cells (g := gl) rfl k _ (by rw [List.getElem?_append_left (by omega)]; exact e2)
        rw [addr_add, Nat.zero_add] at this
        rw [World.cell?_of_block (w := w4) hgl, this, hbx]
        simp
      have cgw : wr.cell? ⟨gw, k, none⟩ = some (.slice (some ⟨hb, 0, none⟩) ((ts[k]).size + 1) c2) := by
        have := L4.ow.cells (g := gw) rfl k _ e3
        rw [addr_add, Nat.zero_add] at this
        rw [World.cell?_of_block (w := w4) hgw4, this, hbx]
        simp
      have cop : wr.cell? ⟨w.heap.size, 6, none⟩ = some (.slice ao ts.length cap) := by
        rw [World.cell?_of_block (w := w4) (K.block w.heap.size (by have := kw4.size; have := k2.size; have := kF.size; have := heap_lt hnew; simp at *; omega) (fun hx => by
          obtain ⟨_, _, _, e⟩ := hrow5 _ (List.mem_of_mem_take hx)
          omega))]
        exact hb4
      obtain ⟨bb, oo, rfl, hbb, hcs⟩ := (hts4.keeps (by have := kw4.size; omega) (K.mono (fun i _ hx => by
        obtain ⟨_, _, _, e⟩ := hrow5 _ (List.mem_of_mem_take hx)
        show B ≤ i
        omega))) k hlt
      have htk := htz _ (List.getElem_mem hlt)
      rw [hbx] at hrow
      have hf : f = (0, 0) ∨ (ts[k]).size + 1 ≤ f.1 := by
        rw [hbx] at e6
        simpa using e6
      clear e6
      have t1 : ∀ nq, (convert 30 9 (.slice (some ⟨hb, 0, none⟩) ((ts[k]).size + 1) c2)).run Try.prog (wr.drewN nq) = .ok (.string (ts[k] ++ ⟨#[165]⟩)) (wr.drewN nq) := fun nq => row_text (w := wr.drewN nq) (x := (ts[k]).data.toList ++ [165]) (y := y) hrow (by simp) (by simp)
      have t2 : ∀ nq, (convert 30 9 (.slice (some ⟨hb, 0, none⟩) (ts[k]).size c1)).run Try.prog (wr.drewN nq) = .ok (.string ts[k]) (wr.drewN nq) := fun nq => row_text (w := wr.drewN nq) (x := (ts[k]).data.toList) (y := [165] ++ y) (by rw [← List.append_assoc]; exact hrow) (by simp) rfl
      generalize ts[k] = t at *
      have q1 : ((t ++ ⟨#[165]⟩ : ByteArray).toList == (t ++ ⟨#[165]⟩ : ByteArray).toList) = true := by simp
      have q2 : (t.toList == t.toList) = true := by simp
      clear hgl hgw4 e1 e2 e3 hbx hts4
      go_wp2_with fail
      have hks : k < hs.length := by rw [L4.len]; omega
      have hmem : hb ∈ hs.take (k + 1) := by
        rw [List.take_succ_eq_append_getElem hks]
        exact List.mem_append_right _ (by rw [hbe]; exact List.mem_singleton.2 rfl)
      have K5 : Keeps w4 wr (fun x => x ∈ hs.take (k + 1)) := K.mono (fun i _ hx => by rw [List.take_succ_eq_append_getElem hks]; exact List.mem_append_left _ hx)
      have hzl : t.size + 1 ≤ (t.data.toList ++ [165] ++ y).length := by simp
      generalize t.data.toList ++ [165] ++ y = z0 at *
      go_quiet (fail)
      go_wp2_with fail
      clear K cgl cgw hcs e5
      go_loopw [157] (fun i wq => ∃ (j : Nat) (z : List UInt8), j ≤ t.size + 1 ∧ i = .int .i64 (j : Int) ∧ wq.heap[hb]? = some (.cells (rowOf z) 5 f) ∧ t.size + 1 ≤ z.length ∧ Keeps w4 wq (fun x => x ∈ hs.take (k + 1))) (fun i _ => t.size + 1 - (intOf i).toNat)
      case atStart => exact ⟨0, z0, Nat.zero_le _, rfl, hrow, hzl, K5.drewN _⟩
      case round =>
        clear hrow hzl K5 t1 t2 q1 q2 cop
        obtain ⟨j, z, hj, rfl, hrz, hzl, Kz⟩ := hrel
        by_cases hjl : j < t.size + 1
        · have hjz : j < z.length := by omega
          have hcell : wr.cell? ⟨hb, j, none⟩ = some (.int .u8 (z[j].toNat : Int)) := by
            have := rowOf_get z j hjz
            simp only [World.cell?, hrz]
            simpa using this
          have hfz : wr.frozen? ⟨hb, j, none⟩ = false := by
            rcases hf with hf | hf
            · simp [World.frozen?, hrz, hf]
            · simp [World.frozen?, hrz]
              omega
          have hst := row_store hrz j (z[j] + 101)
          have hK6 := Kz.setCell ⟨hb, j, none⟩ (fun _ => hmem) (.int .u8 ((z[j] + 101).toNat : Int))
          have hu : (((z[j] + 101 : UInt8).toNat : Nat) : Int) = ((z[j].toNat : Int) + 101) % 256 := by
            rw [UInt8.toNat_add]
            simp
          rw [hu] at hst hK6
          have S1 : Hid ((wr.setCell ⟨hb, j, none⟩ (.int .u8 (((z[j].toNat : Int) + 101) % 256))).heap[hb]? = some (.cells (rowOf (z.set j (z[j] + 101))) 5 f)) := hst
          have hx := z[j].toNat_lt
          clear hst hrz Kz hu
          go_wp2_with fail
          go_roundw
          case rel => exact ⟨j + 1, _, by omega, by go_num, S1.out, by simpa using hzl, hK6⟩
          case measure => simp [intOf]; omega
        · go_wp2_with fail
          go_roundw
          case rel => exact ⟨k + 1, by omega, by go_num, Kz⟩
          case measure => simp [intOf]; omega
    · clear hb4 hts4
      go_wp2_with fail
      go_ret
      obtain ⟨_, F', bs', xs', g', sp', av', q1, q2, q3, q4⟩ := hpost.out
      refine ⟨rfl, F', bs', xs', g', sp', av', q1.keeps K (fun i hi hx => ?_), (kw4.trans K (fun i hi hx => ?_)).mono (fun i hi hx => hx.elim id (fun h => by omega)), fun i hi => (q3 i hi).imp id (fun h => Nat.le_trans kw2.size h), q4⟩
      · obtain ⟨_, _, _, e⟩ := hrow5 _ (List.mem_of_mem_take hx)
        have e2 := hslt _ (List.mem_of_mem_take hx)
        rcases q3 i hi with h | h
        · have := hlow i h
          omega
        · have h' : w2.heap.size ≤ i := h
          omega
      · obtain ⟨_, _, _, e⟩ := hrow5 _ (List.mem_of_mem_take hx)
        omega
end Go.Proofs.Ytlgmpnaalifegab
