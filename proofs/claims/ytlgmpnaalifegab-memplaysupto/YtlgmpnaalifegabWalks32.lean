import Derived.Test.YtlgmpnaalifegabWalks31
namespace Go.Proofs.Ytlgmpnaalifegab
open Go.RowKit

theorem grown_length {bs : List UInt8} {s : Nat} (h : bs.length ≤ s) : (bs ++ zeros (s - bs.length)).length = s := by
  rw [List.length_append, zeros_length]
  omega
theorem cut_length {bs : List UInt8} {s k : Nat} (h : s + k ≤ bs.length) : ((bs.drop s).take k).length = k := by simp; omega
theorem cut_told {bs : List UInt8} {s k j : Nat} {u : UInt8} {l : List UInt8} (hj : j < k) : (if 3 = 1 then u else if 3 = 2 then l.getD j 0 else bs.getD (s + j) 0) = ((bs.drop s).take k).getD j 0 := by
  rw [if_neg (by decide), if_neg (by decide), List.getD_eq_getElem?_getD, List.getD_eq_getElem?_getD, List.getElem?_take_of_lt hj, List.getElem?_drop]
theorem op_lies (w : World) (c : Array Value) : (w.alloc (.cells c 47)).drew.heap[w.heap.size]? = some (.cells c 47) := heap_alloc_new w _
theorem op_kept {W w2 : World} {L : Nat} {o : Obj} {S : Nat → Prop} (h : W.heap[L]? = some o) (k : Keeps W w2 S) (hL : ¬ S L) : w2.heap[L]? = some o := (k.block L (heap_lt h) hL).trans h
theorem op2_cells {W : World} {L : Nat} {mm A C N : Int} {V : Nat} {ao : Option Addr} {n cap : Nat} (h : W.heap[L]? = some (.cells (opCells 2 mm A C N V ao n cap) 47)) : W.cell? ⟨L, 2, none⟩ = some (.int .i64 A) := by
  simp [World.cell?, h, opCells]
theorem op4_cells {W : World} {L : Nat} {mm A C N : Int} {V : Nat} {ao : Option Addr} {n cap : Nat} (h : W.heap[L]? = some (.cells (opCells 4 mm A C N V ao n cap) 47)) : W.cell? ⟨L, 2, none⟩ = some (.int .i64 A) ∧ W.cell? ⟨L, 4, none⟩ = some (.int .i64 N) ∧ W.cell? ⟨L, 5, none⟩ = some (.int .u64 (V : Int)) := by
  simp [World.cell?, h, opCells]
theorem op5_cells {W : World} {L : Nat} {mm A C N : Int} {V : Nat} {ao : Option Addr} {n cap : Nat} (h : W.heap[L]? = some (.cells (opCells 5 mm A C N V ao n cap) 47)) : W.cell? ⟨L, 2, none⟩ = some (.int .i64 A) ∧ W.cell? ⟨L, 4, none⟩ = some (.int .i64 N) ∧ W.cell? ⟨L, 5, none⟩ = some (.int .u64 (V : Int)) := by
  simp [World.cell?, h, opCells]
theorem op6_cells {W : World} {L : Nat} {mm A C N : Int} {V : Nat} {ao : Option Addr} {n cap : Nat} (h : W.heap[L]? = some (.cells (opCells 6 mm A C N V ao n cap) 47)) : W.cell? ⟨L, 2, none⟩ = some (.int .i64 A) ∧ W.cell? ⟨L, 3, none⟩ = some (.int .i64 C) ∧ W.cell? ⟨L, 4, none⟩ = some (.int .i64 N) := by
  simp [World.cell?, h, opCells]
theorem plays_from {B : Nat} {w w1 w' : World} {b rb : Nat} {F : Nat → Prop} {xs : List ActD} {e : Ending} (k : Keeps w w1 (fun _ => False)) (h : PlaysPost B w1 b rb F xs e w') : PlaysPost B w b rb F xs e w' := by
  obtain ⟨h1, F', bs', xs', g', sp', av', h2, h3, h4, h5⟩ := h
  exact ⟨h1, F', bs', xs', g', sp', av', h2, (k.mono (fun _ _ x => x.elim)).trans h3 (fun _ _ x => x), fun i hi => (h4 i hi).imp id (fun h => Nat.le_trans k.size h), h5⟩

set_option maxRecDepth 100000 in
set_option maxHeartbeats 2000000 in
theorem plays_grow_no {B : Nat} {w : World} {b rb : Nat} {F : Nat → Prop} {bs : List UInt8} {xs : List ActD} {g : Nat} {sp : List UInt8} {av : Value} (p : PairAt B w b rb F bs xs g sp av) (mm A C N : Int) (V : Nat) (ao : Option Addr) (n cap : Nat) (h : A < bs.length ∨ 134217728 < A) :
    Calls Try.prog 21 #[.pointer (some ⟨b, 0, none⟩), .pointer (some ⟨rb, 0, none⟩), opArg 2 mm A C N V ao n cap] w fun e w' => PlaysPost B w b rb F xs e w' := by
  have k1 : Keeps w (w.alloc (.cells (opCells 2 mm A C N V ao n cap) 47)).drew (fun _ => False) := ((Keeps.refl _ _).alloc _).drew
  have p1 := p.keepsNone k1
  have h3 := grow_no _ b g bs sp p1.m A h
  have h4 := rgrow_no _ rb bs.length p1.r.cell0 A h
  have P : Hid (PairAt B w b rb F bs xs g sp av) := p
  have s1 := op2_cells (op_lies w (opCells 2 mm A C N V ao n cap))
  unfold opCells at k1 h3 h4 s1
  clear p p1
  go_enter Try.func21, Try.ntmps21
  go_wp2_with fail
  go_region_held3 (fun w' => w'.cell? ⟨w.heap.size, 2, none⟩ = some (.int .i64 A)) (exact s1) (first | (go_at_call 28; refine h3.mono ?_; rintro e w2 ⟨rfl, hw⟩; subst hw) | (go_at_call 34; refine h4.mono ?_; rintro e w2 ⟨rfl, hw⟩; subst hw))
  all_goals
    go_wp2_with fail
    go_ret
    exact plays_same P.out k1

set_option maxRecDepth 100000 in
set_option maxHeartbeats 2000000 in
theorem plays_grow_yes {B : Nat} {w : World} {b rb : Nat} {F : Nat → Prop} {bs : List UInt8} {xs : List ActD} {g : Nat} {sp : List UInt8} {av : Value} (p : PairAt B w b rb F bs xs g sp av) (hB : B ≤ w.heap.size) (_hn : xs.length < 1048576) (mm A C N : Int) (V : Nat) (ao : Option Addr) (n cap : Nat) (s : Nat) (hs : A = s) (h1 : bs.length ≤ s) (h2 : s ≤ 134217728) :
    Calls Try.prog 21 #[.pointer (some ⟨b, 0, none⟩), .pointer (some ⟨rb, 0, none⟩), opArg 2 mm A C N V ao n cap] w fun e w' => PlaysPost B w b rb F xs e w' := by
  subst hs
  have k1 : Keeps w (w.alloc (.cells (opCells 2 mm s C N V ao n cap) 47)).drew (fun _ => False) := ((Keeps.refl _ _).alloc _).drew
  have p1 := p.keepsNone k1
  have h3 := grow_yes _ b g bs sp p1.m s h1 h2
  have P : Hid (PairAt B (w.alloc (.cells (opCells 2 mm s C N V ao n cap) 47)).drew b rb F bs xs g sp av) := p1
  have hbw : b < w.heap.size := heap_lt p.m.hb
  have hgw : g < w.heap.size := heap_lt p.m.hg
  have hB1 : B ≤ (w.alloc (.cells (opCells 2 mm s C N V ao n cap) 47)).drew.heap.size := Nat.le_trans hB k1.size
  have s1 := op2_cells (op_lies w (opCells 2 mm s C N V ao n cap))
  have h4 := fun w2 (K2 : Keeps (w.alloc (.cells (opCells 2 mm s C N V ao n cap) 47)).drew w2 (fun k => k = b ∨ k = g)) => (show Calls _ _ _ _ _ from by
    have r2 := pair_mid P.out K2
    have hB2 := Nat.le_trans hB1 K2.size
    exact rgrow_yes r2 s h1 h2)
  have s2 := fun w2 (K2 : Keeps (w.alloc (.cells (opCells 2 mm s C N V ao n cap) 47)).drew w2 (fun k => k = b ∨ k = g)) => op2_cells (op_kept (op_lies w (opCells 2 mm s C N V ao n cap)) K2 (by rintro (e | e) <;> omega))
  have hrw : rb < w.heap.size := heap_lt p.r.hb
  have hown : ∀ k, av.ownBlock = some k → k < w.heap.size := fun k hk => own_lt p.r.own hk
  have s3 := fun w2 (K2 : Keeps (w.alloc (.cells (opCells 2 mm s C N V ao n cap) 47)).drew w2 (fun k => k = b ∨ k = g)) w3 (K3 : Keeps w2 w3 (fun k => k = rb ∨ av.ownBlock = some k)) => op2_cells (op_kept (op_kept (op_lies w (opCells 2 mm s C N V ao n cap)) K2 (by rintro (e | e) <;> omega)) K3 (by
    rintro (e | e)
    · omega
    · have := hown _ e
      omega))
  unfold opCells at k1 h3 P hB1 s1 h4 s2 s3
  clear hown
  clear p p1
  go_enter Try.func21, Try.ntmps21
  go_wp2_with fail
  go_region_held3 (fun w' => w'.cell? ⟨w.heap.size, 2, none⟩ = some (.int .i64 (s : Int))) (first | exact s1 | exact s2 _ K2 | exact s3 _ K2 _ K3) (first | (go_at_call 28; refine h3.mono ?_; rintro e w2 ⟨g2, sp2, rfl, hg2, m2, k2⟩; have K2 : Keeps _ w2 (fun k => k = b ∨ k = g) := k2) | (go_at_call 34; refine (h4 _ ?_).mono ?_; exact K2; rintro e w3 ⟨rfl, r3, k3⟩; have K3 : Keeps w2 w3 (fun k => k = rb ∨ av.ownBlock = some k) := k3.mono (fun _ _ x => Or.inl x)))
  all_goals
    go_wp2_with fail
    go_ret
    exact plays_from k1 (pair_step P.out K2 m2 hg2 (k3.mono (fun _ _ x => Or.inl x)) (by rw [grown_length h1]; exact r3) (fun _ h => Or.inl h) (told_grown P.out.t _) hB1 (by omega))

set_option maxRecDepth 100000 in
set_option maxHeartbeats 2000000 in
theorem plays_store_width {B : Nat} {w : World} {b rb : Nat} {F : Nat → Prop} {bs : List UInt8} {xs : List ActD} {g : Nat} {sp : List UInt8} {av : Value} (p : PairAt B w b rb F bs xs g sp av) (mm A C N : Int) (V : Nat) (ao : Option Addr) (n cap : Nat) (h : widthB N = false) :
    Calls Try.prog 21 #[.pointer (some ⟨b, 0, none⟩), .pointer (some ⟨rb, 0, none⟩), opArg 4 mm A C N V ao n cap] w fun e w' => PlaysPost B w b rb F xs e w' := by
  have k1 : Keeps w (w.alloc (.cells (opCells 4 mm A C N V ao n cap) 47)).drew (fun _ => False) := ((Keeps.refl _ _).alloc _).drew
  have p1 := p.keepsNone k1
  have h3 := store_width (w.alloc (.cells (opCells 4 mm A C N V ao n cap) 47)).drew (.pointer (some ⟨b, 0, none⟩)) A N V h
  have h4 := rstore_width (w.alloc (.cells (opCells 4 mm A C N V ao n cap) 47)).drew (.pointer (some ⟨rb, 0, none⟩)) A N V h
  have P : Hid (PairAt B w b rb F bs xs g sp av) := p
  have s1 := op4_cells (op_lies w (opCells 4 mm A C N V ao n cap))
  unfold opCells at k1 h3 h4 s1
  clear p p1
  go_enter Try.func21, Try.ntmps21
  go_wp2_with fail
  go_region_held3 (fun w' => w'.cell? ⟨w.heap.size, 2, none⟩ = some (.int .i64 A) ∧ w'.cell? ⟨w.heap.size, 4, none⟩ = some (.int .i64 N) ∧ w'.cell? ⟨w.heap.size, 5, none⟩ = some (.int .u64 (V : Int))) (exact s1) (first | (go_at_call 13; refine h3.mono ?_; rintro e w2 ⟨rfl, hw⟩; subst hw) | (go_at_call 35; refine h4.mono ?_; rintro e w2 ⟨rfl, hw⟩; subst hw))
  all_goals
    go_wp2_with fail
    go_ret
    exact plays_same P.out k1

set_option maxRecDepth 100000 in
set_option maxHeartbeats 2000000 in
theorem plays_store_out {B : Nat} {w : World} {b rb : Nat} {F : Nat → Prop} {bs : List UInt8} {xs : List ActD} {g : Nat} {sp : List UInt8} {av : Value} (p : PairAt B w b rb F bs xs g sp av) (mm A C N : Int) (V : Nat) (ao : Option Addr) (n cap : Nat) (h : widthB N = true) (h2 : insideB bs.length A N = false) :
    Calls Try.prog 21 #[.pointer (some ⟨b, 0, none⟩), .pointer (some ⟨rb, 0, none⟩), opArg 4 mm A C N V ao n cap] w fun e w' => PlaysPost B w b rb F xs e w' := by
  have k1 : Keeps w (w.alloc (.cells (opCells 4 mm A C N V ao n cap) 47)).drew (fun _ => False) := ((Keeps.refl _ _).alloc _).drew
  have p1 := p.keepsNone k1
  have h3 := store_out _ b g bs sp p1.m A N V h h2
  have h4 := rstore_out p1.r A N V h h2
  have P : Hid (PairAt B w b rb F bs xs g sp av) := p
  have s1 := op4_cells (op_lies w (opCells 4 mm A C N V ao n cap))
  unfold opCells at k1 h3 h4 s1
  clear p p1
  go_enter Try.func21, Try.ntmps21
  go_wp2_with fail
  go_region_held3 (fun w' => w'.cell? ⟨w.heap.size, 2, none⟩ = some (.int .i64 A) ∧ w'.cell? ⟨w.heap.size, 4, none⟩ = some (.int .i64 N) ∧ w'.cell? ⟨w.heap.size, 5, none⟩ = some (.int .u64 (V : Int))) (exact s1) (first | (go_at_call 13; refine h3.mono ?_; rintro e w2 ⟨rfl, hw⟩; subst hw) | (go_at_call 35; refine h4.mono ?_; rintro e w2 ⟨rfl, hw⟩; subst hw))
  all_goals
    go_wp2_with fail
    go_ret
    exact plays_same P.out k1

set_option maxRecDepth 100000 in
set_option maxHeartbeats 2000000 in
theorem plays_store_yes {B : Nat} {w : World} {b rb : Nat} {F : Nat → Prop} {bs : List UInt8} {xs : List ActD} {g : Nat} {sp : List UInt8} {av : Value} (p : PairAt B w b rb F bs xs g sp av) (hB : B ≤ w.heap.size) (hn : xs.length < 1048576) (mm A C N : Int) (V : Nat) (ao : Option Addr) (n cap : Nat) (hv : V < 18446744073709551616) (h : widthB N = true) (h2 : insideB bs.length A N = true) :
    Calls Try.prog 21 #[.pointer (some ⟨b, 0, none⟩), .pointer (some ⟨rb, 0, none⟩), opArg 4 mm A C N V ao n cap] w fun e w' => PlaysPost B w b rb F xs e w' := by
  obtain ⟨o, k, rfl, rfl, hok⟩ := insideB_nat h2
  have k1 : Keeps w (w.alloc (.cells (opCells 4 mm o C k V ao n cap) 47)).drew (fun _ => False) := ((Keeps.refl _ _).alloc _).drew
  have p1 := p.keepsNone k1
  have h3 := store_yes _ b g bs sp p1.m o k V h hok
  have P : Hid (PairAt B (w.alloc (.cells (opCells 4 mm o C k V ao n cap) 47)).drew b rb F bs xs g sp av) := p1
  have hbw : b < w.heap.size := heap_lt p.m.hb
  have hgw : g < w.heap.size := heap_lt p.m.hg
  have hB1 : B ≤ (w.alloc (.cells (opCells 4 mm o C k V ao n cap) 47)).drew.heap.size := Nat.le_trans hB k1.size
  have s1 := op4_cells (op_lies w (opCells 4 mm o C k V ao n cap))
  have h4 := fun w2 (K2 : Keeps (w.alloc (.cells (opCells 4 mm o C k V ao n cap) 47)).drew w2 (fun k => k = b ∨ k = g)) => (show Calls _ _ _ _ _ from by
    have r2 := pair_mid P.out K2
    have hB2 := Nat.le_trans hB1 K2.size
    exact rstore_yes r2 hn hB2 o k V hv h hok)
  have s2 := fun w2 (K2 : Keeps (w.alloc (.cells (opCells 4 mm o C k V ao n cap) 47)).drew w2 (fun k => k = b ∨ k = g)) => op4_cells (op_kept (op_lies w (opCells 4 mm o C k V ao n cap)) K2 (by rintro (e | e) <;> omega))
  have hrw : rb < w.heap.size := heap_lt p.r.hb
  have hown : ∀ k, av.ownBlock = some k → k < w.heap.size := fun k hk => own_lt p.r.own hk
  have s3 := fun w2 (K2 : Keeps (w.alloc (.cells (opCells 4 mm o C k V ao n cap) 47)).drew w2 (fun k => k = b ∨ k = g)) w3 (K3 : Keeps w2 w3 (fun k => k = rb ∨ av.ownBlock = some k)) => op4_cells (op_kept (op_kept (op_lies w (opCells 4 mm o C k V ao n cap)) K2 (by rintro (e | e) <;> omega)) K3 (by
    rintro (e | e)
    · omega
    · have := hown _ e
      omega))
  unfold opCells at k1 h3 P hB1 s1 h4 s2 s3
  clear hown
  clear p p1
  go_enter Try.func21, Try.ntmps21
  go_wp2_with fail
  go_region_held3 (fun w' => w'.cell? ⟨w.heap.size, 2, none⟩ = some (.int .i64 (o : Int)) ∧ w'.cell? ⟨w.heap.size, 4, none⟩ = some (.int .i64 (k : Int)) ∧ w'.cell? ⟨w.heap.size, 5, none⟩ = some (.int .u64 (V : Int))) (first | exact s1 | exact s2 _ K2 | exact s3 _ K2 _ K3) (first | (go_at_call 13; refine h3.mono ?_; rintro e w2 ⟨rfl, m2, k2⟩; have K2 : Keeps _ w2 (fun k => k = b ∨ k = g) := k2.mono (fun _ _ x => Or.inr x)) | (go_at_call 35; refine (h4 _ ?_).mono ?_; exact K2; rintro e w3 ⟨rfl, av3, r3, k3, hav3⟩; have K3 : Keeps w2 w3 (fun k => k = rb ∨ av.ownBlock = some k) := k3))
  all_goals
    go_wp2_with fail
    go_ret
    exact plays_from k1 (pair_step P.out K2 m2 (Or.inl rfl) k3 (by rw [splice_length (by rw [leBytes_length]; exact hok)]; exact r3) hav3 (told_splice P.out.t ⟨2, o, k, 0, 0, strOf (leBytes V k)⟩ (leBytes V k) hok (leBytes_length V k) (fun j hj => by simp [strOf])) hB1 (by simp))

set_option maxRecDepth 100000 in
set_option maxHeartbeats 2000000 in
theorem plays_fill_no {B : Nat} {w : World} {b rb : Nat} {F : Nat → Prop} {bs : List UInt8} {xs : List ActD} {g : Nat} {sp : List UInt8} {av : Value} (p : PairAt B w b rb F bs xs g sp av) (mm A C N : Int) (V : Nat) (ao : Option Addr) (n cap : Nat) (h : insideB bs.length A N = false) :
    Calls Try.prog 21 #[.pointer (some ⟨b, 0, none⟩), .pointer (some ⟨rb, 0, none⟩), opArg 5 mm A C N V ao n cap] w fun e w' => PlaysPost B w b rb F xs e w' := by
  have k1 : Keeps w (w.alloc (.cells (opCells 5 mm A C N V ao n cap) 47)).drew (fun _ => False) := ((Keeps.refl _ _).alloc _).drew
  have p1 := p.keepsNone k1
  have h3 := fill_no _ b g bs sp p1.m A N ((V : Int) % 256) h
  have h4 := rfill_no p1.r A N ((V : Int) % 256) h
  have P : Hid (PairAt B w b rb F bs xs g sp av) := p
  have s1 := op5_cells (op_lies w (opCells 5 mm A C N V ao n cap))
  unfold opCells at k1 h3 h4 s1
  clear p p1
  go_enter Try.func21, Try.ntmps21
  go_wp2_with fail
  go_region_held3 (fun w' => w'.cell? ⟨w.heap.size, 2, none⟩ = some (.int .i64 A) ∧ w'.cell? ⟨w.heap.size, 4, none⟩ = some (.int .i64 N) ∧ w'.cell? ⟨w.heap.size, 5, none⟩ = some (.int .u64 (V : Int))) (exact s1) (first | (go_at_call 29; refine h3.mono ?_; rintro e w2 ⟨rfl, hw⟩; subst hw) | (go_at_call 36; refine h4.mono ?_; rintro e w2 ⟨rfl, hw⟩; subst hw))
  all_goals
    go_wp2_with fail
    go_ret
    exact plays_same P.out k1

set_option maxRecDepth 100000 in
set_option maxHeartbeats 2000000 in
theorem plays_fill_yes {B : Nat} {w : World} {b rb : Nat} {F : Nat → Prop} {bs : List UInt8} {xs : List ActD} {g : Nat} {sp : List UInt8} {av : Value} (p : PairAt B w b rb F bs xs g sp av) (hB : B ≤ w.heap.size) (hn : xs.length < 1048576) (mm A C N : Int) (V : Nat) (ao : Option Addr) (n cap : Nat) (u : UInt8) (hu : Hid ((V : Int) % 256 = (u.toNat : Int))) (h2 : insideB bs.length A N = true) :
    Calls Try.prog 21 #[.pointer (some ⟨b, 0, none⟩), .pointer (some ⟨rb, 0, none⟩), opArg 5 mm A C N V ao n cap] w fun e w' => PlaysPost B w b rb F xs e w' := by
  obtain ⟨o, k, rfl, rfl, hok⟩ := insideB_nat h2
  have k1 : Keeps w (w.alloc (.cells (opCells 5 mm o C k V ao n cap) 47)).drew (fun _ => False) := ((Keeps.refl _ _).alloc _).drew
  have p1 := p.keepsNone k1
  have h3 := fill_yes _ b g bs sp p1.m o k hok u
  rw [← hu.out] at h3
  have P : Hid (PairAt B (w.alloc (.cells (opCells 5 mm o C k V ao n cap) 47)).drew b rb F bs xs g sp av) := p1
  have hbw : b < w.heap.size := heap_lt p.m.hb
  have hgw : g < w.heap.size := heap_lt p.m.hg
  have hB1 : B ≤ (w.alloc (.cells (opCells 5 mm o C k V ao n cap) 47)).drew.heap.size := Nat.le_trans hB k1.size
  have s1 := op5_cells (op_lies w (opCells 5 mm o C k V ao n cap))
  have h4 := fun w2 (K2 : Keeps (w.alloc (.cells (opCells 5 mm o C k V ao n cap) 47)).drew w2 (fun k => k = b ∨ k = g)) => (show Calls _ _ _ _ _ from by
    have r2 := pair_mid P.out K2
    have hB2 := Nat.le_trans hB1 K2.size
    have h4 := rfill_yes r2 hn hB2 o k u hok
    rw [← hu.out] at h4
    exact h4)
  have s2 := fun w2 (K2 : Keeps (w.alloc (.cells (opCells 5 mm o C k V ao n cap) 47)).drew w2 (fun k => k = b ∨ k = g)) => op5_cells (op_kept (op_lies w (opCells 5 mm o C k V ao n cap)) K2 (by rintro (e | e) <;> omega))
  have hrw : rb < w.heap.size := heap_lt p.r.hb
  have hown : ∀ k, av.ownBlock = some k → k < w.heap.size := fun k hk => own_lt p.r.own hk
  have s3 := fun w2 (K2 : Keeps (w.alloc (.cells (opCells 5 mm o C k V ao n cap) 47)).drew w2 (fun k => k = b ∨ k = g)) w3 (K3 : Keeps w2 w3 (fun k => k = rb ∨ av.ownBlock = some k)) => op5_cells (op_kept (op_kept (op_lies w (opCells 5 mm o C k V ao n cap)) K2 (by rintro (e | e) <;> omega)) K3 (by
    rintro (e | e)
    · omega
    · have := hown _ e
      omega))
  unfold opCells at k1 h3 P hB1 s1 h4 s2 s3
  clear hown
  clear p p1
  go_enter Try.func21, Try.ntmps21
  go_wp2_with fail
  go_region_held3 (fun w' => w'.cell? ⟨w.heap.size, 2, none⟩ = some (.int .i64 (o : Int)) ∧ w'.cell? ⟨w.heap.size, 4, none⟩ = some (.int .i64 (k : Int)) ∧ w'.cell? ⟨w.heap.size, 5, none⟩ = some (.int .u64 (V : Int))) (first | exact s1 | exact s2 _ K2 | exact s3 _ K2 _ K3) (first | (go_at_call 29; refine h3.mono ?_; rintro e w2 ⟨rfl, m2, k2⟩; have K2 : Keeps _ w2 (fun k => k = b ∨ k = g) := k2.mono (fun _ _ x => Or.inr x)) | (go_at_call 36; refine (h4 _ ?_).mono ?_; exact K2; rintro e w3 ⟨rfl, av3, r3, k3, hav3⟩; have K3 : Keeps w2 w3 (fun k => k = rb ∨ av.ownBlock = some k) := k3))
  all_goals
    go_wp2_with fail
    go_ret
    exact plays_from k1 (pair_step P.out K2 m2 (Or.inl rfl) k3 (by rw [splice_length (by rw [same_length]; exact hok)]; exact r3) hav3 (told_splice P.out.t ⟨1, o, k, 0, u, ⟨#[]⟩⟩ (same k u) hok (same_length k u) (fun j hj => by simp [same, show j < k from hj])) hB1 (by simp))

set_option maxRecDepth 100000 in
set_option maxHeartbeats 2000000 in
theorem plays_copy_no {B : Nat} {w : World} {b rb : Nat} {F : Nat → Prop} {bs : List UInt8} {xs : List ActD} {g : Nat} {sp : List UInt8} {av : Value} (p : PairAt B w b rb F bs xs g sp av) (mm A C N : Int) (V : Nat) (ao : Option Addr) (n cap : Nat) (h : (insideB bs.length A N && insideB bs.length C N) = false) :
    Calls Try.prog 21 #[.pointer (some ⟨b, 0, none⟩), .pointer (some ⟨rb, 0, none⟩), opArg 6 mm A C N V ao n cap] w fun e w' => PlaysPost B w b rb F xs e w' := by
  have k1 : Keeps w (w.alloc (.cells (opCells 6 mm A C N V ao n cap) 47)).drew (fun _ => False) := ((Keeps.refl _ _).alloc _).drew
  have p1 := p.keepsNone k1
  have h3 := copy_no _ b g bs sp p1.m A C N h
  have h4 := rcopy_no p1.r A C N h
  have P : Hid (PairAt B w b rb F bs xs g sp av) := p
  have s1 := op6_cells (op_lies w (opCells 6 mm A C N V ao n cap))
  unfold opCells at k1 h3 h4 s1
  clear p p1
  go_enter Try.func21, Try.ntmps21
  go_wp2_with fail
  go_region_held3 (fun w' => w'.cell? ⟨w.heap.size, 2, none⟩ = some (.int .i64 A) ∧ w'.cell? ⟨w.heap.size, 3, none⟩ = some (.int .i64 C) ∧ w'.cell? ⟨w.heap.size, 4, none⟩ = some (.int .i64 N)) (exact s1) (first | (go_at_call 30; refine h3.mono ?_; rintro e w2 ⟨rfl, hw⟩; subst hw) | (go_at_call 37; refine h4.mono ?_; rintro e w2 ⟨rfl, hw⟩; subst hw))
  all_goals
    go_wp2_with fail
    go_ret
    exact plays_same P.out k1

set_option maxRecDepth 100000 in
set_option maxHeartbeats 2000000 in
theorem plays_copy_yes {B : Nat} {w : World} {b rb : Nat} {F : Nat → Prop} {bs : List UInt8} {xs : List ActD} {g : Nat} {sp : List UInt8} {av : Value} (p : PairAt B w b rb F bs xs g sp av) (hB : B ≤ w.heap.size) (hn : xs.length < 1048576) (mm A C N : Int) (V : Nat) (ao : Option Addr) (n cap : Nat) (h : (insideB bs.length A N && insideB bs.length C N) = true) :
    Calls Try.prog 21 #[.pointer (some ⟨b, 0, none⟩), .pointer (some ⟨rb, 0, none⟩), opArg 6 mm A C N V ao n cap] w fun e w' => PlaysPost B w b rb F xs e w' := by
  obtain ⟨e1, e2⟩ := (Bool.and_eq_true _ _).mp h
  obtain ⟨o, k, rfl, rfl, hok⟩ := insideB_nat e1
  obtain ⟨s, k', rfl, hkk, hsk⟩ := insideB_nat e2
  obtain rfl : k = k' := by omega
  have k1 : Keeps w (w.alloc (.cells (opCells 6 mm o s k V ao n cap) 47)).drew (fun _ => False) := ((Keeps.refl _ _).alloc _).drew
  have p1 := p.keepsNone k1
  have h3 := copy_yes _ b g bs sp p1.m o s k hok hsk
  have P : Hid (PairAt B (w.alloc (.cells (opCells 6 mm o s k V ao n cap) 47)).drew b rb F bs xs g sp av) := p1
  have hbw : b < w.heap.size := heap_lt p.m.hb
  have hgw : g < w.heap.size := heap_lt p.m.hg
  have hB1 : B ≤ (w.alloc (.cells (opCells 6 mm o s k V ao n cap) 47)).drew.heap.size := Nat.le_trans hB k1.size
  have s1 := op6_cells (op_lies w (opCells 6 mm o s k V ao n cap))
  have h4 := fun w2 (K2 : Keeps (w.alloc (.cells (opCells 6 mm o s k V ao n cap) 47)).drew w2 (fun k => k = b ∨ k = g)) => (show Calls _ _ _ _ _ from by
    have r2 := pair_mid P.out K2
    have hB2 := Nat.le_trans hB1 K2.size
    exact rcopy_yes r2 hn hB2 o s k hok hsk)
  have s2 := fun w2 (K2 : Keeps (w.alloc (.cells (opCells 6 mm o s k V ao n cap) 47)).drew w2 (fun k => k = b ∨ k = g)) => op6_cells (op_kept (op_lies w (opCells 6 mm o s k V ao n cap)) K2 (by rintro (e | e) <;> omega))
  have hrw : rb < w.heap.size := heap_lt p.r.hb
  have hown : ∀ k, av.ownBlock = some k → k < w.heap.size := fun k hk => own_lt p.r.own hk
  have s3 := fun w2 (K2 : Keeps (w.alloc (.cells (opCells 6 mm o s k V ao n cap) 47)).drew w2 (fun k => k = b ∨ k = g)) w3 (K3 : Keeps w2 w3 (fun k => k = rb ∨ av.ownBlock = some k)) => op6_cells (op_kept (op_kept (op_lies w (opCells 6 mm o s k V ao n cap)) K2 (by rintro (e | e) <;> omega)) K3 (by
    rintro (e | e)
    · omega
    · have := hown _ e
      omega))
  unfold opCells at k1 h3 P hB1 s1 h4 s2 s3
  clear hown
  clear p p1
  go_enter Try.func21, Try.ntmps21
  go_wp2_with fail
  go_region_held3 (fun w' => w'.cell? ⟨w.heap.size, 2, none⟩ = some (.int .i64 (o : Int)) ∧ w'.cell? ⟨w.heap.size, 3, none⟩ = some (.int .i64 (s : Int)) ∧ w'.cell? ⟨w.heap.size, 4, none⟩ = some (.int .i64 (k : Int))) (first | exact s1 | exact s2 _ K2 | exact s3 _ K2 _ K3) (first | (go_at_call 30; refine h3.mono ?_; rintro e w2 ⟨rfl, m2, k2⟩; have K2 : Keeps _ w2 (fun k => k = b ∨ k = g) := k2.mono (fun _ _ x => Or.inr x)) | (go_at_call 37; refine (h4 _ ?_).mono ?_; exact K2; rintro e w3 ⟨rfl, av3, r3, k3, hav3⟩; have K3 : Keeps w2 w3 (fun k => k = rb ∨ av.ownBlock = some k) := k3))
  all_goals
    go_wp2_with fail
    go_ret
    exact plays_from k1 (pair_step P.out K2 m2 (Or.inl rfl) k3 (by rw [splice_length (by rw [cut_length hsk]; exact hok)]; exact r3) hav3 (told_splice P.out.t ⟨3, o, k, s, 0, ⟨#[]⟩⟩ ((bs.drop s).take k) hok (cut_length hsk) (fun j hj => cut_told hj)) hB1 (by simp))

set_option maxRecDepth 100000 in
set_option maxHeartbeats 1000000 in
theorem plays_other {B : Nat} {w : World} {b rb : Nat} {F : Nat → Prop} {bs : List UInt8} {xs : List ActD} {g : Nat} {sp : List UInt8} {av : Value} (p : PairAt B w b rb F bs xs g sp av) (kd mm A C N : Int) (V : Nat) (ao : Option Addr) (n cap : Nat) (hk : kd < 1 ∨ 9 < kd) :
    Calls Try.prog 21 #[.pointer (some ⟨b, 0, none⟩), .pointer (some ⟨rb, 0, none⟩), opArg kd mm A C N V ao n cap] w fun e w' => PlaysPost B w b rb F xs e w' := by
  have k1 : Keeps w (w.alloc (.cells (opCells kd mm A C N V ao n cap) 47)) (fun _ => False) := (Keeps.refl _ _).alloc _
  have P : Hid (PairAt B w b rb F bs xs g sp av) := p
  have e1 : (kd == 1) = false := beq_eq_false_iff_ne.2 (by omega)
  have e2 : (kd == 2) = false := beq_eq_false_iff_ne.2 (by omega)
  have e3 : (kd == 3) = false := beq_eq_false_iff_ne.2 (by omega)
  have e4 : (kd == 4) = false := beq_eq_false_iff_ne.2 (by omega)
  have e5 : (kd == 5) = false := beq_eq_false_iff_ne.2 (by omega)
  have e6 : (kd == 6) = false := beq_eq_false_iff_ne.2 (by omega)
  have e7 : (kd == 7) = false := beq_eq_false_iff_ne.2 (by omega)
  have e8 : (kd == 8) = false := beq_eq_false_iff_ne.2 (by omega)
  have e9 : (kd == 9) = false := beq_eq_false_iff_ne.2 (by omega)
  unfold opCells at k1
  clear p hk
  go_enter Try.func21, Try.ntmps21
  go_wp2_with fail
  go_ret
  exact plays_same P.out k1
end Go.Proofs.Ytlgmpnaalifegab
