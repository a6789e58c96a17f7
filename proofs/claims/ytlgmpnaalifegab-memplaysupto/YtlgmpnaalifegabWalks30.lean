import Derived.Test.YtlgmpnaalifegabWalks29
namespace Go.Proofs.Ytlgmpnaalifegab
open Go.RowKit

theorem own_text {w : World} {B : Nat} {lv : Value} {x : List UInt8} {n : Nat} (hn : x.length = n) (h : w.ownsRow B 5 1 lv n (cellsOf x)) : (convert 30 9 lv).run Try.prog w = .ok (.string (strOf x)) w := by
  subst hn
  rcases h.2 with ⟨rfl, h0⟩ | ⟨g, cap, cur, rfl, hb, hg, hc, hm, hs, ht⟩
  · obtain rfl : x = [] := List.eq_nil_of_length_eq_zero h0
    rfl
  · refine run_text w ⟨g, 0, none⟩ cap x.length x rfl (fun j hj => ?_)
    rw [addr_add, Nat.zero_add]
    have e : cur.toList[j]? = (cellsOf x)[j]? := by
      rw [← ht, List.getElem?_take_of_lt (by omega)]
    simp only [World.cell?, hg]
    have e2 : cur[j]? = cur.toList[j]? := by simp
    rw [e2, e]
    simp [cellsOf, cellOf, hj]

set_option maxRecDepth 100000 in
set_option maxHeartbeats 1000000 in
theorem asks_read_no {B : Nat} {w : World} {b rb : Nat} {F : Nat → Prop} {bs : List UInt8} {xs : List ActD} {g : Nat} {sp : List UInt8} {av : Value} (p : PairAt B w b rb F bs xs g sp av) (mm A C N : Int) (V : Nat) (ao : Option Addr) (n cap : Nat) (h : insideB bs.length A N = false) :
    Calls Try.prog 33 #[.pointer (some ⟨b, 0, none⟩), .pointer (some ⟨rb, 0, none⟩), opArg 8 mm A C N V ao n cap] w fun e w' => AskPost w e w' := by
  have k1 : Keeps w (w.alloc (.cells (opCells 8 mm A C N V ao n cap) 47)) (fun _ => False) := (Keeps.refl _ _).alloc _
  have p1 := p.keepsNone k1
  have h3 := read_no _ b g bs sp p1.m A N h
  have h4 := rread_no p1.r A N h
  obtain ⟨S, hnil0⟩ : ∃ S, ∀ W, (convert 30 9 (.slice none 0 0)).run Try.prog W = .ok (.string S) W := ⟨⟨#[]⟩, fun _ => rfl⟩
  have hnil := hnil0 (w.alloc (.cells (opCells 8 mm A C N V ao n cap) 47))
  have hb : (S.toList == S.toList) = true := by simp
  have hnn : (binOp .eql 30 (.slice none 0 0) (.slice none 0 0)).run Try.prog (w.alloc (.cells (opCells 8 mm A C N V ao n cap) 47)) = .ok (.bool true) (w.alloc (.cells (opCells 8 mm A C N V ao n cap) 47)) := rfl
  unfold opCells at hnil hnn
  clear hnil0
  unfold opCells at k1 h3 h4
  clear p p1
  go_enter Try.func33, Try.ntmps33
  go_wp2_with fail
  refine h3.mono ?_
  rintro e w2 ⟨rfl, hw⟩
  subst hw
  clear h3
  go_wp2_with fail
  refine h4.mono ?_
  rintro e w2 ⟨rfl, k2⟩
  subst k2
  clear h4
  go_wp2_with fail
  go_ret
  exact ⟨rfl, k1⟩

set_option maxRecDepth 100000 in
set_option maxHeartbeats 1000000 in
theorem asks_read_yes {B : Nat} {w : World} {b rb : Nat} {F : Nat → Prop} {bs : List UInt8} {xs : List ActD} {g : Nat} {sp : List UInt8} {av : Value} (p : PairAt B w b rb F bs xs g sp av) (mm A C N : Int) (V : Nat) (ao : Option Addr) (n cap : Nat) (h : insideB bs.length A N = true) :
    Calls Try.prog 33 #[.pointer (some ⟨b, 0, none⟩), .pointer (some ⟨rb, 0, none⟩), opArg 8 mm A C N V ao n cap] w fun e w' => AskPost w e w' := by
  obtain ⟨o, k, rfl, rfl, hok⟩ := insideB_nat h
  have k1 : Keeps w (w.alloc (.cells (opCells 8 mm o C k V ao n cap) 47)) (fun _ => False) := (Keeps.refl _ _).alloc _
  have p1 := p.keepsNone k1
  have h3 := read_yes _ b g bs sp p1.m o k hok
  have hlk : ((bs.drop o).take k).length = k := by simp; omega
  have hbl : bs.length ≤ 134217728 := p.r.hsz
  have P1 : Hid (PairAt B (w.alloc (.cells (opCells 8 mm o C k V ao n cap) 47)) b rb F bs xs g sp av) := p1
  unfold opCells at k1 h3 P1
  clear p p1 h
  go_enter Try.func33, Try.ntmps33
  go_wp2_with fail
  refine h3.mono ?_
  rintro e w2 ⟨l, hl, rfl, hrow, k2⟩
  clear h3
  have p2 := P1.out.keepsNone k2
  have hblk := (k2.block w.heap.size (by simp) id).trans (heap_alloc_new w _)
  have c2 : w2.cell? ⟨w.heap.size, 2, none⟩ = some (.int .i64 (o : Int)) := by simp [World.cell?, hblk]
  have c4 : w2.cell? ⟨w.heap.size, 4, none⟩ = some (.int .i64 (k : Int)) := by simp [World.cell?, hblk]
  clear hblk
  have h4 := rread_yes p2.r p2.t rfl o k hok
  clear p2
  go_wp2_with fail
  refine h4.mono ?_
  rintro e w3 ⟨lv, rfl, hown, k3⟩
  clear h4
  have hrow3 := (k3.block l (heap_lt hrow) id).trans hrow
  have K3 := (k1.trans k2 (fun _ _ x => x)).trans k3 (fun _ _ x => x)
  rw [hlk] at hown
  have HT1 : (convert 30 9 (.slice (some ⟨l, 0, none⟩) k k)).run Try.prog w3 = .ok (.string (strOf ((bs.drop o).take k))) w3 := row_text (w := w3) (h := l) (n := k) (c := k) (y := []) (by rw [List.append_nil]; exact hrow3) hlk (by simp [strOf])
  have HT2 : (convert 30 9 lv).run Try.prog w3 = .ok (.string (strOf ((bs.drop o).take k))) w3 := own_text (w := w3) hlk hown
  generalize strOf ((bs.drop o).take k) = S at *
  have hb : (S.toList == S.toList) = true := by simp
  clear hrow hrow3 hown hlk k1 k2 k3 P1
  go_wp2_with fail
  go_ret
  exact ⟨rfl, K3⟩
theorem asks_any {B : Nat} {w : World} {b rb : Nat} {F : Nat → Prop} {bs : List UInt8} {xs : List ActD} {g : Nat} {sp : List UInt8} {av : Value} (p : PairAt B w b rb F bs xs g sp av) (kd mm A C N : Int) (V : Nat) (ao : Option Addr) (n cap : Nat) (hk : kd = 1 ∨ kd = 3 ∨ kd = 7 ∨ kd = 8) :
    Calls Try.prog 33 #[.pointer (some ⟨b, 0, none⟩), .pointer (some ⟨rb, 0, none⟩), opArg kd mm A C N V ao n cap] w fun e w' => AskPost w e w' := by
  rcases hk with rfl | rfl | rfl | rfl
  · exact asks_len p mm A C N V ao n cap
  · cases h1 : widthB N
    · exact asks_load_width p mm A C N V ao n cap h1
    · cases h2 : insideB bs.length A N
      · exact asks_load_out p mm A C N V ao n cap h1 h2
      · exact asks_load p mm A C N V ao n cap h1 h2
  · cases h1 : (insideB bs.length A N && insideB bs.length C N)
    · exact asks_equal_no p mm A C N V ao n cap h1
    · exact asks_equal_yes p mm A C N V ao n cap h1
  · cases h1 : insideB bs.length A N
    · exact asks_read_no p mm A C N V ao n cap h1
    · exact asks_read_yes p mm A C N V ao n cap h1
end Go.Proofs.Ytlgmpnaalifegab
