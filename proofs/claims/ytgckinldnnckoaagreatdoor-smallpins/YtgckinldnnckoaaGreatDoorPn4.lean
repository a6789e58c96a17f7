import Derived.Deep.QuietTactic
import Derived.BigQuiet
import Derived.Lib.SlicesSearch
import Derived.Deep.LoopGhost
import Derived.Great.BuildSlice
import Derived.Laws.Bits64
import Derived.Test.YtgckinldnnckoaaGreatDoorPn3
namespace Go.Proofs.YtgckinldnnckoaaGreatDoor
open Go.RowKit Go.Shelf

/-- A list of ints behind an address. -/
def IntsAt (w : World) (a : Option Addr) (zs : List Int) : Prop := ∀ j (h : j < zs.length), ∃ b o, a = some ⟨b, o, none⟩ ∧ w.cell? ⟨b, o + j, none⟩ = some (.int .i64 zs[j])
theorem IntsAt.two {w : World} {a : Option Addr} {zs : List Int} (h : IntsAt w a zs) : zs = [] ∨ ∃ b o, a = some ⟨b, o, none⟩ ∧ 0 < zs.length ∧ ∀ j (h : j < zs.length), w.cell? ⟨b, o + j, none⟩ = some (.int .i64 zs[j]) := by
  cases zs with
  | nil => exact Or.inl rfl
  | cons z r =>
    obtain ⟨b, o, e, _⟩ := h 0 (by simp)
    refine Or.inr ⟨b, o, e, by simp, fun j hj => ?_⟩
    obtain ⟨b', o', e', hc⟩ := h j hj
    rw [e] at e'
    cases e'
    exact hc
theorem IntsAt.keeps {w w' : World} {a : Option Addr} {zs : List Int} {S : Nat → Prop} (h : IntsAt w a zs) (k : Keeps w w' S) (hS : ∀ b o, a = some ⟨b, o, none⟩ → ¬ S b) (hlt : ∀ b o, a = some ⟨b, o, none⟩ → b < w.heap.size) : IntsAt w' a zs := by
  intro j hj
  obtain ⟨b, o, e, hc⟩ := h j hj
  exact ⟨b, o, e, (World.cell?_of_block (w := w) (k.block b (hlt b o e) (hS b o e))).trans hc⟩

theorem class_any (n : Int) (w : World) : Calls Tryz.prog 105 #[.int .i64 n] w fun e w' => e = .returned (.int .i64 (classI n)) ∧ w' = w := by
  unfold classI
  by_cases h : 1 ≤ n ∧ n ≤ 1048576
  · rw [if_pos h]
    obtain ⟨k, rfl⟩ := Int.eq_ofNat_of_zero_le (show 0 ≤ n by omega)
    exact class_yes k w (by omega) (by omega)
  · rw [if_neg h]
    exact class_no n w (by omega)
theorem classI_bounds (n : Int) : 0 ≤ classI n ∧ classI n ≤ 1048576 := by
  unfold classI
  split
  · rename_i h
    have := class_le n.toNat (by omega) (by omega)
    omega
  · omega

theorem index_any (a : Option Addr) (cap : Nat) (zs : List Int) (w : World) (hbig : zs.length ≤ 140737488355328) (h : IntsAt w a zs) :
    Calls Tryz.prog 167 #[.slice a zs.length cap, .func (.func 137) #[] #[]] w fun e w' => IdxPost w zs e w' := by
  rcases h.two with rfl | ⟨b, o, rfl, _, hc⟩
  · exact index_nil a cap w
  · exact index_some b o cap zs w hbig hc

def ContPost (w : World) (zs : List Int) (e : Ending) (w' : World) : Prop := ∃ b, e = .returned (.bool b) ∧ w' = w ∧ (b = true → ¬ allOne zs) ∧ (b = false → allOne zs)
set_option maxHeartbeats 400000 in
theorem contains_any (a : Option Addr) (cap : Nat) (zs : List Int) (w : World) (hbig : zs.length ≤ 140737488355328) (h : IntsAt w a zs) :
    Calls Tryz.prog 136 #[.slice a zs.length cap, .func (.func 137) #[] #[]] w fun e w' => ContPost w zs e w' := by
  have hi := index_any a cap zs w hbig h
  clear h
  go_enter Tryz.func136, Tryz.ntmps136
  go_wp2_with fail
  refine hi.mono ?_
  rintro e w1 ⟨i, rfl, rfl, h1, h2, h3, h4⟩
  clear hi
  by_cases h0 : 0 ≤ i
  · have H : Hid (¬ allOne zs) := h3 h0
    clear h3 h4
    go_wp2_with fail
    go_ret
    exact ⟨true, rfl, rfl, fun _ => H.out, fun h => by cases h⟩
  · have H : Hid (allOne zs) := h4 (by omega)
    clear h3 h4
    go_wp2_with fail
    go_ret
    exact ⟨decide (0 ≤ i), rfl, rfl, fun h => absurd (of_decide_eq_true h) (by omega), fun _ => H.out⟩

/-- Is there room for a block of each? -/
def fitsIn : Int → List Int → Bool
  | _, [] => true
  | room, z :: r => if classI z = 0 ∨ room < classI z then false else fitsIn (room - classI z) r
/-- The error. -/
noncomputable def refE (d : AD) (zs : List Int) : Int := open Classical in if allOne zs then (if fitsIn ((d.limit : Int) - (d.used : Int)) zs then 0 else 22) else 21
theorem fitsIn_drop_succ {room : Int} {zs : List Int} {k : Nat} (hk : k < zs.length) : fitsIn room (zs.drop k) = if classI (zs[k]) = 0 ∨ room < classI (zs[k]) then false else fitsIn (room - classI (zs[k])) (zs.drop (k + 1)) := by
  rw [List.drop_eq_getElem_cons hk, fitsIn]

def RefPost (w : World) (x : Int) (e : Ending) (w' : World) : Prop := e = .returned (.int .i64 x) ∧ Keeps w w' (fun _ => False)

set_option maxHeartbeats 1000000 in
theorem refused_ask {w : World} {p : Nat} (a : Option Addr) (cap : Nat) (zs : List Int) (hbig : zs.length ≤ 140737488355328) (hz : IntsAt w a zs) (hno : Hid (¬ allOne zs)) :
    Calls Tryz.prog 103 #[.pointer (some ⟨p, 0, none⟩), .slice a zs.length cap] w fun e w' => RefPost w 21 e w' := by
  have hc := contains_any a cap zs w hbig hz
  clear hz
  go_enter Tryz.func103, Tryz.ntmps103
  go_wp2_with fail
  refine hc.mono ?_
  rintro e w1 ⟨b, rfl, rfl, h1, h2⟩
  obtain rfl : b = true := by
    cases b
    · exact absurd (h2 rfl) hno.out
    · rfl
  clear hc h1 h2
  go_wp2_with fail
  go_ret
  exact ⟨rfl, Keeps.refl _ _⟩

set_option maxHeartbeats 1000000 in
theorem refused_nil {w : World} {p : Nat} {c : AR} {d : AD} (h : ArenaAt w p c d) (hF : d.Fine) (a : Option Addr) (cap : Nat) :
    Calls Tryz.prog 103 #[.pointer (some ⟨p, 0, none⟩), .slice a 0 cap] w fun e w' => RefPost w 0 e w' := by
  have hc := contains_any a cap [] w (by simp) (fun j hj => by simp at hj)
  have c0 := h.cell0
  have c1 := h.cell1
  have hl := hF.lim
  have hu := hF.use
  clear h hF
  simp only [List.length_nil] at hc
  go_enter Tryz.func103, Tryz.ntmps103
  go_wp2_with fail
  refine hc.mono ?_
  rintro e w1 ⟨b, rfl, rfl, h1, h2⟩
  obtain rfl : b = false := by
    cases b
    · rfl
    · exact absurd (fun z hz => by cases hz) (h1 rfl)
  clear hc h1 h2
  have hw : IntKind.i64.wrap ((d.limit : Int) - (d.used : Int)) = (d.limit : Int) - (d.used : Int) := by rw [IntKind.wrap_i64]; omega
  have K0 := Keeps.refl w1 (fun _ => False)
  go_wp2_with fail
  go_quiet (fail)
  go_wp2_with fail
  go_loop [22] (fun i => i = .int .i64 0) (fun _ => 0)
  case atStart => rfl
  case round =>
    subst hrel
    go_wp2_with fail
    go_ret
    exact ⟨rfl, K0.drewN _⟩

set_option maxHeartbeats 2000000 in
theorem refused_some {w : World} {p : Nat} {c : AR} {d : AD} (h : ArenaAt w p c d) (hF : d.Fine) (b o cap : Nat) (zs : List Int) (hbig : zs.length ≤ 140737488355328) (hz : ∀ j (h : j < zs.length), w.cell? ⟨b, o + j, none⟩ = some (.int .i64 zs[j])) (hall : Hid (allOne zs)) (x : Int)
    (hx : Hid (x = if fitsIn ((d.limit : Int) - (d.used : Int)) zs then 0 else 22)) :
    Calls Tryz.prog 103 #[.pointer (some ⟨p, 0, none⟩), .slice (some ⟨b, o, none⟩) zs.length cap] w fun e w' => RefPost w x e w' := by
  have hc := contains_any (some ⟨b, o, none⟩) cap zs w hbig (fun j hj => ⟨b, o, rfl, hz j hj⟩)
  have c0 := h.cell0
  have c1 := h.cell1
  have hl := hF.lim
  have hu := hF.use
  clear h hF
  have hw : IntKind.i64.wrap ((d.limit : Int) - (d.used : Int)) = (d.limit : Int) - (d.used : Int) := by rw [IntKind.wrap_i64]; omega
  have K0 := Keeps.refl w (fun _ => False)
  obtain ⟨R, hR⟩ : ∃ R : Int, R = (d.limit : Int) - (d.used : Int) := ⟨_, rfl⟩
  rw [← hR] at hx hw
  have hR0 : 0 ≤ R ∧ R ≤ 2097152 := by omega
  go_enter Tryz.func103, Tryz.ntmps103
  go_wp2_with fail
  refine hc.mono ?_
  rintro e w1 ⟨t, rfl, rfl, h1, h2⟩
  obtain rfl : t = false := by
    cases t
    · rfl
    · exact absurd hall.out (h1 rfl)
  clear hc h1 h2 hall
  go_wp2_with fail
  go_quiet (fail)
  go_wp2_with fail
  rw [← hR]
  clear c0 c1 hw
  go_loop [5, 22] (fun r i => ∃ (k : Nat) (q : Int), i = .int .i64 (k : Int) ∧ r = .int .i64 q ∧ k ≤ zs.length ∧ Hid (fitsIn R zs = fitsIn q (zs.drop k)) ∧ 0 ≤ q ∧ q ≤ 2097152) (fun _ i => zs.length - (intOf i).toNat)
  case atStart => exact ⟨0, R, rfl, rfl, Nat.zero_le _, rfl, hR0.1, hR0.2⟩
  case round =>
    obtain ⟨k, q, rfl, rfl, hk, hq, hq0, hq1⟩ := hrel
    clear hR hR0
    by_cases hlt : k < zs.length
    · have hlt' : (k : Int) < (zs.length : Int) := by omega
      have hck := hz k hlt
      have hstep := fitsIn_drop_succ (room := q) hlt
      generalize zs[k]'hlt = z at hck hstep
      have hcl := fun W => class_any z W
      have hcb := classI_bounds z
      generalize classI z = cz at hstep hcl hcb
      have HS : Hid (fitsIn q (zs.drop k) = if cz = 0 ∨ q < cz then false else fitsIn (q - cz) (zs.drop (k + 1))) := hstep
      clear hstep hz
      go_wp2_with fail
      refine (hcl _).mono ?_
      rintro e w2 ⟨rfl, rfl⟩
      clear hcl
      by_cases hbad : cz = 0 ∨ q < cz
      · have hx22 : x = 22 := by
          have := hx.out
          rw [hq.out, HS.out, if_pos hbad] at this
          exact this
        subst hx22
        clear hq HS hx
        rcases hbad with hb | hb
        · subst hb
          go_wp2_with fail
          go_ret
          exact ⟨rfl, K0.drewN _⟩
        · have hc0 : ¬ cz = 0 := by omega
          go_wp2_with fail
          go_ret
          exact ⟨rfl, K0.drewN _⟩
      · have hb1 : ¬ cz = 0 := fun h => hbad (Or.inl h)
        have hb2 : ¬ q < cz := fun h => hbad (Or.inr h)
        have hb1' : (cz == 0) = false := beq_eq_false_iff_ne.2 hb1
        have HB : Hid (¬ (cz = 0 ∨ q < cz)) := hbad
        clear hx hbad hb1
        go_wp2_with fail
        go_round
        case rel => exact ⟨k + 1, q - cz, by go_num, by go_num, by omega, by rw [hq.out, HS.out, if_neg HB.out]; exact rfl, by omega, by omega⟩
        case measure => simp [intOf]; omega
    · have hk' : ¬ (k : Int) < (zs.length : Int) := by omega
      have hx0 : x = 0 := by
        have := hx.out
        rw [hq.out, List.drop_eq_nil_of_le (by omega)] at this
        exact this
      subst hx0
      clear hq hx
      go_wp2_with fail
      go_ret
      exact ⟨rfl, K0.drewN _⟩

theorem refused_any {w : World} {p : Nat} {c : AR} {d : AD} (h : ArenaAt w p c d) (hF : d.Fine) (a : Option Addr) (cap : Nat) (zs : List Int) (hbig : zs.length ≤ 140737488355328) (hz : IntsAt w a zs) :
    Calls Tryz.prog 103 #[.pointer (some ⟨p, 0, none⟩), .slice a zs.length cap] w fun e w' => RefPost w (refE d zs) e w' := by
  unfold refE
  by_cases hall : allOne zs
  · rw [if_pos hall]
    rcases hz.two with rfl | ⟨b, o, rfl, _, hc⟩
    · exact refused_nil h hF a cap
    · exact refused_some h hF b o cap zs hbig hc hall _ rfl
  · rw [if_neg hall]
    exact refused_ask a cap zs hbig hz hall
end Go.Proofs.YtgckinldnnckoaaGreatDoor
namespace Go.Proofs.YtgckinldnnckoaaGreatDoor
open Go.RowKit Go.Shelf

theorem cnan_any (x : Int) (w : World) : Calls Tryz.prog 176 #[.int .i64 x] w fun e w' => e = .returned (.bool false) ∧ w' = w := by
  go_enter Tryz.func176, Tryz.ntmps176
  go_wp2
  go_ret
  exact ⟨by simp, rfl⟩
theorem snan_any (x : Int) (w : World) : Calls Tryz.prog 154 #[.int .i64 x] w fun e w' => e = .returned (.bool false) ∧ w' = w := by
  go_enter Tryz.func154, Tryz.ntmps154
  go_wp2
  go_ret
  exact ⟨by simp, rfl⟩
theorem less_any (x y : Int) (w : World) : Calls Tryz.prog 153 #[.int .i64 x, .int .i64 y] w fun e w' => e = .returned (.bool (decide (x < y))) ∧ w' = w := by
  have h := cnan_any x w
  go_enter Tryz.func153, Tryz.ntmps153
  go_wp2_with (go_at_call 176; refine (cnan_any _ _).mono ?_; rintro e w' ⟨rfl, rfl⟩)
  go_ret
  exact ⟨rfl, rfl⟩

def SearchPost (w : World) (zs : List Int) (x : Int) (e : Ending) (w' : World) : Prop :=
  e = .returned (.tuple #[.int .i64 ((zs.countP (fun y => decide (y < x)) : Nat) : Int), .bool (zs.contains x)]) ∧ Keeps w w' (fun _ => False)

set_option maxHeartbeats 4000000 in
set_option maxRecDepth 1000000 in
theorem search_some (b o cap : Nat) (zs : List Int) (x : Int) (w : World) (hbig : zs.length < 4611686018427387904) (hc : ∀ j, j < zs.length → w.cell? ⟨b, o + j, none⟩ = some (.int .i64 (zs.getD j 0))) (hs : zs.Pairwise (· ≤ ·)) :
    Calls Tryz.prog 121 #[.slice (some ⟨b, o, none⟩) zs.length cap, .int .i64 x] w fun e w' => SearchPost w zs x e w' := by
  have hs' : (zs.take zs.length).Pairwise (· ≤ ·) := by rw [List.take_length]; exact hs
  have S : Hid (∀ a b, a ≤ b → b < zs.length → zs.getD a 0 ≤ zs.getD b 0) := Lib.sorted_at zs zs.length (Nat.le_refl _) hs'
  clear hs hs'
  obtain ⟨n, hn⟩ : ∃ n, n = zs.length := ⟨_, rfl⟩
  have N : Hid (n = zs.length) := hn
  rw [← hn] at hbig hc S ⊢
  clear hn
  go_enter Tryz.func121, Tryz.ntmps121
  go_wp2_with fail
  go_loopg [7, 8] n (fun g s7 s8 wr => ∃ lo hi q : Nat, s7 = .int .i64 lo ∧ s8 = .int .i64 hi ∧ lo ≤ hi ∧ hi ≤ n ∧ hi - lo ≤ g ∧ wr = w.drewN q ∧ (∀ t, t < lo → zs.getD t 0 < x) ∧ (∀ t, hi ≤ t → t < n → x ≤ zs.getD t 0))
  case atStart => exact ⟨0, n, 0, rfl, rfl, Nat.zero_le _, Nat.le_refl _, by omega, rfl, fun t ht => absurd ht (Nat.not_lt_zero _), fun t h1 h2 => by omega⟩
  case round =>
    obtain ⟨lo, hi, q, rfl, rfl, hlh, hin, hg, rfl, h1, h2⟩ := hrel
    have I : Hid ((∀ t, t < lo → zs.getD t 0 < x) ∧ (∀ t, hi ≤ t → t < n → x ≤ zs.getD t 0)) := ⟨h1, h2⟩
    clear h1 h2
    by_cases hlt : lo < hi
    · have cm : w.cell? ⟨b, o + (lo + hi) / 2, none⟩ = some (.int .i64 (zs.getD ((lo + hi) / 2) 0)) := hc _ (by omega)
      clear hc
      generalize hy : zs.getD ((lo + hi) / 2) 0 = y at cm
      have Y : Hid (zs.getD ((lo + hi) / 2) 0 = y) := hy
      clear hy
      by_cases hyx : y < x
      · go_wp2_with (first | (go_at_call 153; refine (less_any _ _ _).mono ?_; rintro e w' ⟨rfl, rfl⟩))
        go_roundg (hi - ((lo + hi) / 2 + 1))
        case measure => omega
        case rel =>
          refine ⟨(lo + hi) / 2 + 1, hi, _, by rw [show ((lo : Int) + (hi : Int)) / 2 + 1 = (((lo + hi) / 2 + 1 : Nat) : Int) by omega], rfl, by omega, hin, Nat.le_refl _, rfl, fun t ht => ?_, I.out.2⟩
          have := S.out t ((lo + hi) / 2) (by omega) (by omega)
          rw [Y.out] at this
          omega
      · go_wp2_with (first | (go_at_call 153; refine (less_any _ _ _).mono ?_; rintro e w' ⟨rfl, rfl⟩))
        go_roundg ((lo + hi) / 2 - lo)
        case measure => omega
        case rel =>
          refine ⟨lo, (lo + hi) / 2, _, rfl, by rw [show ((lo : Int) + (hi : Int)) / 2 = (((lo + hi) / 2 : Nat) : Int) by omega], by omega, by omega, Nat.le_refl _, rfl, I.out.1, fun t ht htn => ?_⟩
          have := S.out ((lo + hi) / 2) t ht htn
          rw [Y.out] at this
          omega
    · have : hi = lo := by omega
      subst this
      have hE := Lib.search_end zs n hi x (by rw [N.out]; exact Nat.le_refl _) hin I.out.1 I.out.2 S.out
      rw [show zs.take n = zs from by rw [N.out, List.take_length]] at hE
      have E : Hid (zs.countP (fun y => decide (y < x)) = hi ∧ zs.contains x = decide (hi < n ∧ zs.getD hi 0 = x)) := hE
      clear hE
      have K0 := Keeps.refl w (fun _ => False)
      by_cases hn : hi < n
      · have cl : w.cell? ⟨b, o + hi, none⟩ = some (.int .i64 (zs.getD hi 0)) := hc _ (by omega)
        clear hc
        generalize hy : zs.getD hi 0 = y at cl
        have Y : Hid (zs.getD hi 0 = y) := hy
        clear hy
        by_cases hyx : y = x
        · go_wp2_with (first | (go_at_call 154; refine (snan_any _ _).mono ?_; rintro e w' ⟨rfl, rfl⟩))
          go_ret2
          refine ⟨?_, K0.drewN _⟩
          rw [E.out.1, E.out.2, Y.out, decide_eq_true (show hi < n ∧ y = x from ⟨hn, hyx⟩)]
          first | rfl | simp [*]
        · go_wp2_with (first | (go_at_call 154; refine (snan_any _ _).mono ?_; rintro e w' ⟨rfl, rfl⟩))
          go_ret2
          refine ⟨?_, K0.drewN _⟩
          rw [E.out.1, E.out.2, Y.out, decide_eq_false (show ¬ (hi < n ∧ y = x) from fun h => hyx h.2)]
          first | rfl | simp [*]
      · clear hc
        go_wp2_with (first | (go_at_call 154; refine (snan_any _ _).mono ?_; rintro e w' ⟨rfl, rfl⟩))
        go_ret2
        refine ⟨?_, K0.drewN _⟩
        rw [E.out.1, E.out.2, decide_eq_false (show ¬ (hi < n ∧ zs.getD hi 0 = x) from fun h => hn h.1)]
        first | rfl | simp [*]
end Go.Proofs.YtgckinldnnckoaaGreatDoor
namespace Go.Proofs.YtgckinldnnckoaaGreatDoor
open Go.RowKit Go.Shelf

set_option maxHeartbeats 1000000 in
theorem search_nil (a : Option Addr) (cap : Nat) (x : Int) (w : World) : Calls Tryz.prog 121 #[.slice a 0 cap, .int .i64 x] w fun e w' => SearchPost w [] x e w' := by
  have K0 := Keeps.refl w (fun _ => False)
  go_enter Tryz.func121, Tryz.ntmps121
  go_wp2_with fail
  go_loop [7, 8] (fun i j => i = .int .i64 0 ∧ j = .int .i64 0) (fun _ _ => 0)
  case atStart => exact ⟨rfl, rfl⟩
  case round =>
    obtain ⟨rfl, rfl⟩ := hrel
    go_wp2_with fail
    go_ret2
    exact ⟨rfl, K0⟩

/-- The list of offsets is nil, or lies in a row. -/
theorem ArenaAt.begs {w : World} {p : Nat} {c : AR} {d : AD} (h : ArenaAt w p c d) : (c.v = .slice none 0 0 ∧ d.L = []) ∨ ∃ g cap, c.v = .slice (some ⟨g, 0, none⟩) d.L.length cap ∧ ∀ j (hj : j < d.L.length), w.cell? ⟨g, j, none⟩ = some (.int .i64 (d.L[j].1 : Int)) := by
  rcases h.beg.2 with ⟨h2, h3⟩ | ⟨g, cap, cur, hv, hb, hg, r⟩
  · exact Or.inl ⟨h2, List.eq_nil_of_length_eq_zero h3⟩
  · obtain ⟨r1, r2, r3, r4⟩ := r
    refine Or.inr ⟨g, cap, hv, fun j hj => ?_⟩
    have hj' : j < d.begins.length := by rw [AD.begins_length]; exact hj
    have hlt : j < (cur.toList.take (d.L.length * 1)).length := by rw [r4]; simpa using hj'
    have e1 : (cur.toList.take (d.L.length * 1))[j]? = some (.int .i64 (d.L[j].1 : Int)) := by
      rw [r4]
      simp [AD.begins, cellI, hj]
    rw [List.getElem?_take] at e1
    simp only [World.cell?, hg]
    simpa [hj] using e1

def BoolPost (w : World) (t : Bool) (e : Ending) (w' : World) : Prop := e = .returned (.bool t) ∧ Keeps w w' (fun _ => False)

set_option maxHeartbeats 400000 in
theorem ins_out (w : World) (p : Nat) (k off n : Int) (h : k < 0 ∨ n < 0) :
    Calls Tryz.prog 122 #[.pointer (some ⟨p, 0, none⟩), .int .i64 k, .int .i64 off, .int .i64 n] w fun e w' => BoolPost w false e w' := by
  have K0 := Keeps.refl w (fun _ => False)
  by_cases h0 : k < 0
  · go_enter Tryz.func122, Tryz.ntmps122
    go_wp2_with fail
    go_ret
    exact ⟨rfl, K0⟩
  · have h1 : n < 0 := by omega
    go_enter Tryz.func122, Tryz.ntmps122
    go_wp2_with fail
    go_ret
    exact ⟨rfl, K0⟩

set_option maxHeartbeats 1000000 in
set_option maxRecDepth 100000 in
theorem ins_core (w : World) (p g cap bl k x len : Nat) (sz off n : Int) (c3 : w.cell? ⟨p, 3, none⟩ = some (.slice (some ⟨g, 0, none⟩) len cap)) (c4 : w.cell? ⟨p, 4, none⟩ = some (.map (some bl))) (hck : w.cell? ⟨g, k, none⟩ = some (.int .i64 (x : Int)))
    (hk : k < len) (hn : 0 ≤ n) (hn2 : n ≤ 9223372036854775807) (ho : (x : Int) ≤ off) (ho2 : off ≤ 9223372036854775807) (hsz : 0 ≤ sz ∧ sz ≤ 134217728) (t : Bool)
    (hlk : (Instr.lookup 109 (.map (some bl)) (.int .i64 (x : Int)) true).run Tryz.prog w = .ok (.tuple #[.int .i64 sz, .bool t]) w) :
    Calls Tryz.prog 122 #[.pointer (some ⟨p, 0, none⟩), .int .i64 (k : Int), .int .i64 off, .int .i64 n] w fun e w' => BoolPost w (t && decide (off - x ≤ sz - n)) e w' := by
  have K0 : Hid (Keeps w w (fun _ => False)) := Keeps.refl w (fun _ => False)
  have hk0 : ¬ (k : Int) < 0 := by omega
  have hk1 : (k : Int) < (len : Int) := by omega
  cases t
  · go_enter Tryz.func122, Tryz.ntmps122
    go_wp2_with fail
    go_ret
    exact ⟨rfl, K0.out⟩
  · have hw1 : IntKind.i64.wrap (off - (x : Int)) = off - (x : Int) := by rw [IntKind.wrap_i64]; omega
    have hw2 : IntKind.i64.wrap (sz - n) = sz - n := by rw [IntKind.wrap_i64]; omega
    go_enter Tryz.func122, Tryz.ntmps122
    go_wp2_with fail
    go_ret
    exact ⟨rfl, K0.out⟩

set_option maxHeartbeats 1000000 in
theorem ins_at {w : World} {p : Nat} {c : AR} {d : AD} (h : ArenaAt w p c d) (hF : d.Fine) (k : Nat) (hk : k < d.L.length) (off n : Int) (hn : 0 ≤ n) (hn2 : n ≤ 9223372036854775807) (ho : (d.L[k].1 : Int) ≤ off) (ho2 : off ≤ 9223372036854775807) :
    Calls Tryz.prog 122 #[.pointer (some ⟨p, 0, none⟩), .int .i64 (k : Int), .int .i64 off, .int .i64 n] w fun e w' => BoolPost w (d.insideAt k off n) e w' := by
  have htm := tiles_mem hF.tiles (List.getElem_mem hk)
  have hmost := hF.most
  have c3 := h.cell3
  have c4 := h.cell4
  rcases h.begs with ⟨_, hnil⟩ | ⟨g, cap, hv, hcell⟩
  · rw [hnil] at hk
    simp at hk
  · rw [hv] at c3
    have hck := hcell k hk
    have hlk := look_ok_int (w := w) Tryz.underlying3 Tryz.underlying109 (Tryz.zeroI _) h.live (x := (d.L[k].1 : Int)) (fitsI_mk (by omega) (by omega))
    have hres : d.insideAt k off n = ((d.lv d.L[k].1).isSome && decide (off - d.L[k].1 ≤ ((d.lv d.L[k].1).getD 0) - n)) := by
      unfold AD.insideAt
      rw [if_neg (by omega), Int.toNat_natCast, List.getElem?_eq_getElem hk]
    rw [hres]
    have hsz : 0 ≤ (d.lv d.L[k].1).getD 0 ∧ (d.lv d.L[k].1).getD 0 ≤ 134217728 := by
      cases hl : d.lv d.L[k].1 with
      | none => simp
      | some s =>
        obtain ⟨x, m, _, e2, hm⟩ := hF.live _ _ hl
        have := tiles_mem hF.tiles hm
        simp at this ⊢
        omega
    exact ins_core w p g cap c.bl k d.L[k].1 d.L.length _ off n c3 c4 hck hk hn hn2 ho ho2 hsz _ hlk

set_option maxHeartbeats 1000000 in
set_option maxRecDepth 100000 in
theorem good_core (w : World) (p : Nat) (v : Value) (off n : Int) (i : Nat) (t1 t2 t3 : Bool) (c3 : w.cell? ⟨p, 3, none⟩ = some v) (hi : i ≤ 134217728)
    (hS : Calls Tryz.prog 121 #[v, .int .i64 off] w fun e w' => e = .returned (.tuple #[.int .i64 (i : Int), .bool t1]) ∧ Keeps w w' (fun _ => False))
    (h1 : t1 = true → ∀ W, Keeps w W (fun _ => False) → Calls Tryz.prog 122 #[.pointer (some ⟨p, 0, none⟩), .int .i64 (i : Int), .int .i64 off, .int .i64 n] W fun e w' => BoolPost W t2 e w')
    (h2 : ∀ W, Keeps w W (fun _ => False) → Calls Tryz.prog 122 #[.pointer (some ⟨p, 0, none⟩), .int .i64 ((i : Int) - 1), .int .i64 off, .int .i64 n] W fun e w' => BoolPost W t3 e w') :
    Calls Tryz.prog 84 #[.pointer (some ⟨p, 0, none⟩), .int .i64 off, .int .i64 n] w fun e w' => BoolPost w ((t1 && t2) || t3) e w' := by
  go_enter Tryz.func84, Tryz.ntmps84
  go_wp2_with fail
  refine hS.mono ?_
  rintro e w1 ⟨rfl, k1⟩
  clear hS c3
  have hm1 : IntKind.i64.wrap ((i : Int) - 1) = (i : Int) - 1 := by rw [IntKind.wrap_i64]; omega
  cases t1
  · replace h2 := h2 w1 k1
    clear h1
    have K1 : Hid (Keeps w w1 (fun _ => False)) := k1
    clear k1
    go_wp2_with fail
    refine h2.mono ?_
    rintro e w2 ⟨rfl, k2⟩
    have K2 : Hid (Keeps w w2 (fun _ => False)) := K1.out.trans k2 (fun _ _ e => e)
    clear h2 k2 K1
    go_wp2_with fail
    go_ret
    exact ⟨rfl, K2.out⟩
  · replace h1 := h1 rfl w1 k1
    go_wp2_with fail
    refine h1.mono ?_
    rintro e w2 ⟨rfl, k2⟩
    have k12 := k1.trans k2 (fun _ _ e => e)
    clear h1 k1 k2
    cases t2
    · replace h2 := h2 w2 k12
      have K1 : Hid (Keeps w w2 (fun _ => False)) := k12
      clear k12
      go_wp2_with fail
      refine h2.mono ?_
      rintro e w3 ⟨rfl, k3⟩
      have K2 : Hid (Keeps w w3 (fun _ => False)) := K1.out.trans k3 (fun _ _ e => e)
      clear h2 k3 K1
      go_wp2_with fail
      go_ret
      exact ⟨rfl, K2.out⟩
    · clear h2
      have K1 : Hid (Keeps w w2 (fun _ => False)) := k12
      clear k12
      go_wp2_with fail
      go_ret
      exact ⟨rfl, K1.out⟩

theorem insideAt_neg (d : AD) (k off n : Int) (h : k < 0 ∨ n < 0) : d.insideAt k off n = false := by
  unfold AD.insideAt
  rw [if_pos h]

theorem good_any {w : World} {p : Nat} {c : AR} {d : AD} (h : ArenaAt w p c d) (hF : d.Fine) (off n : Int) (ho : fitsI off) (hn : fitsI n) :
    Calls Tryz.prog 84 #[.pointer (some ⟨p, 0, none⟩), .int .i64 off, .int .i64 n] w fun e w' => BoolPost w (d.goodB off n) e w' := by
  have hob := fitsI_bounds ho
  have hnb := fitsI_bounds hn
  have hL : d.L.length ≤ 134217728 := by have := tiles_length hF.tiles; have := hF.most; omega
  have hbl : d.begins.length = d.L.length := AD.begins_length d
  have hcp : d.begins.countP (fun y => decide (y < off)) ≤ d.L.length := by rw [← hbl]; exact List.countP_le_length
  have hS : Calls Tryz.prog 121 #[c.v, .int .i64 off] w fun e w' => SearchPost w d.begins off e w' := by
    rcases h.begs with ⟨hv, hnil⟩ | ⟨g, cap, hv, hcell⟩
    · rw [hv]
      have : d.begins = [] := by simp [AD.begins, hnil]
      rw [this]
      exact search_nil none 0 off w
    · rw [hv, ← hbl]
      refine search_some g 0 cap d.begins off w (by omega) (fun j hj => ?_) (hF.begins_sorted.imp (fun h => by omega))
      have hj' : j < d.L.length := by omega
      rw [Nat.zero_add, hcell j hj']
      simp [AD.begins, hj']
  rw [← hF.good_eq off n]
  have hC := fun {i : Nat} (hi : i < d.begins.length) => countP_lt_of_sorted (x := off) hF.begins_sorted hi
  have hget : ∀ {i : Nat} (hi : i < d.L.length), d.begins[i]'(by rw [AD.begins_length]; exact hi) = (d.L[i].1 : Int) := fun hi => by simp [AD.begins]
  refine good_core w p c.v off n _ _ _ _ h.cell3 (by omega) hS ?_ ?_
  · intro ht W k
    have hW := h.keeps k (fun _ _ e => e)
    by_cases hn0 : n < 0
    · rw [insideAt_neg _ _ _ _ (Or.inr hn0)]
      exact ins_out W p _ off n (Or.inr hn0)
    · rw [List.contains_iff_mem] at ht
      obtain ⟨i, hi, e⟩ := List.getElem_of_mem ht
      have hi' : i < d.L.length := by rw [← hbl]; exact hi
      have hiq : i = d.begins.countP (fun y => decide (y < off)) := by
        have h3 := hC hi
        rw [e] at h3
        have h4 : ¬ i < d.begins.countP (fun y => decide (y < off)) := fun h => by have := h3.2 h; omega
        rcases Nat.lt_or_ge (d.begins.countP (fun y => decide (y < off))) i with h5 | h5
        · have h6 := hC (i := d.begins.countP (fun y => decide (y < off))) (by omega)
          have h7 : d.begins[d.begins.countP (fun y => decide (y < off))]'(by omega) < d.begins[i] := (List.pairwise_iff_getElem.1 hF.begins_sorted) _ i (by omega) hi h5
          rw [e] at h7
          have := h6.1 h7
          omega
        · omega
      rw [← hiq]
      exact ins_at hW hF i hi' off n (by omega) hnb.2 (by rw [← hget hi', e]; exact Int.le_refl _) hob.2
  · intro W k
    have hW := h.keeps k (fun _ _ e => e)
    by_cases hn0 : n < 0
    · rw [insideAt_neg _ _ _ _ (Or.inr hn0)]
      exact ins_out W p _ off n (Or.inr hn0)
    · by_cases h0 : d.begins.countP (fun y => decide (y < off)) = 0
      · rw [h0, insideAt_neg _ _ _ _ (Or.inl (by simp))]
        exact ins_out W p _ off n (Or.inl (by simp))
      · obtain ⟨q, hq⟩ : ∃ q, d.begins.countP (fun y => decide (y < off)) = q + 1 := ⟨d.begins.countP (fun y => decide (y < off)) - 1, by omega⟩
        rw [hq]
        have e1 : (((q + 1 : Nat) : Int) - 1) = (q : Int) := by omega
        rw [e1]
        have hk : q < d.L.length := by omega
        have h3 := (hC (i := q) (by rw [hbl]; exact hk)).2 (by omega)
        rw [hget hk] at h3
        exact ins_at hW hF q hk off n (by omega) hnb.2 (by omega) hob.2
end Go.Proofs.YtgckinldnnckoaaGreatDoor
namespace Go.Proofs.YtgckinldnnckoaaGreatDoor
open Go.RowKit Go.Shelf

/-- A way to take a block: where it lies, what the arena is then. -/
theorem class_in (n : Nat) (h1 : 1 ≤ n) (h2 : n ≤ 1048576) : classN n ∈ classList := by
  obtain ⟨x, hx, e, _⟩ := class_spec n h1 h2
  rw [e]
  exact (List.of_mem_zip hx).1
theorem classI_in (z : Int) (h1 : 1 ≤ z) (h2 : z ≤ 1048576) : (classI z).toNat ∈ classList := by
  unfold classI
  rw [if_pos ⟨h1, h2⟩, Int.toNat_natCast]
  exact class_in z.toNat (by omega) (by omega)
structure TakeOK (T : AD → Nat → Nat × AD) (G : AD → Prop) : Prop where
  call : ∀ {w : World} {p : Nat} {F : Nat → Prop} {d : AD} (c : Nat), G d → d.Fine → Arena w p F d → c ∈ classList → c ≤ 1048576 → d.used + c ≤ d.limit →
    Calls Tryz.prog 104 #[.pointer (some ⟨p, 0, none⟩), .int .i64 (c : Int)] w fun e w' => TakePost w p F (T d c).1 (T d c).2 e w'
  fine : ∀ {d : AD} (c : Nat), G d → d.Fine → c ∈ classList → c ≤ 1048576 → d.used + c ≤ d.limit → (T d c).2.Fine ∧ G (T d c).2 ∧ (T d c).2.used = d.used + c ∧ (T d c).2.limit = d.limit ∧ (T d c).1 ≤ 134217728
def takeAll (T : AD → Nat → Nat × AD) : AD → List Int → List Int × AD
  | d, [] => ([], d)
  | d, z :: r => let x := T d (classI z).toNat; let y := takeAll T x.2 r; ((x.1 : Int) :: y.1, y.2)
theorem takeAll_length (T : AD → Nat → Nat × AD) : ∀ (zs : List Int) (d : AD), (takeAll T d zs).1.length = zs.length
  | [], _ => rfl
  | z :: r, d => by simp [takeAll, takeAll_length T r]
theorem takeAll_snoc (T : AD → Nat → Nat × AD) : ∀ (zs : List Int) (z : Int) (d : AD), takeAll T d (zs ++ [z]) = ((takeAll T d zs).1 ++ [((T (takeAll T d zs).2 (classI z).toNat).1 : Int)], (T (takeAll T d zs).2 (classI z).toNat).2)
  | [], _, _ => rfl
  | y :: r, z, d => by simp [takeAll, takeAll_snoc T r]
theorem fitsIn_len : ∀ (zs : List Int) (room : Int), fitsIn room zs = true → allOne zs → 0 ≤ room → 16 * (zs.length : Int) ≤ room
  | [], _, _, _, h => by simpa using h
  | z :: r, room, h, ha, _ => by
    unfold fitsIn at h
    split at h
    · cases h
    · rename_i hn
      have h1 : 1 ≤ z := ha z (by simp)
      have hc : 16 ≤ classI z := by
        unfold classI at hn ⊢
        by_cases hz : 1 ≤ z ∧ z ≤ 1048576
        · rw [if_pos hz]
          have := class_le z.toNat (by omega) (by omega)
          omega
        · rw [if_neg hz] at hn
          exact absurd (Or.inl rfl) hn
      have := fitsIn_len r (room - classI z) h (fun y hy => ha y (by simp [hy])) (by omega)
      simp
      omega
/-- What holds behind the first k of them. -/
theorem takeAll_take {T : AD → Nat → Nat × AD} {G : AD → Prop} (hT : TakeOK T G) {d : AD} (hG : G d) (hF : d.Fine) {zs : List Int} (ha : allOne zs) (hf : fitsIn ((d.limit : Int) - (d.used : Int)) zs = true) : ∀ k, k ≤ zs.length →
    (takeAll T d (zs.take k)).2.Fine ∧ G (takeAll T d (zs.take k)).2 ∧ (takeAll T d (zs.take k)).2.limit = d.limit ∧ fitsIn ((d.limit : Int) - ((takeAll T d (zs.take k)).2.used : Int)) (zs.drop k) = true
  | 0, _ => ⟨hF, hG, rfl, hf⟩
  | k + 1, hk => by
    obtain ⟨f1, f2, f3, f4⟩ := takeAll_take hT hG hF ha hf k (by omega)
    have hlt : k < zs.length := by omega
    rw [List.take_succ_eq_append_getElem hlt, takeAll_snoc]
    rw [fitsIn_drop_succ hlt] at f4
    have hz1 : 1 ≤ zs[k] := ha _ (List.getElem_mem hlt)
    split at f4
    · cases f4
    · rename_i hn
      have hb := classI_bounds zs[k]
      have hz2 : zs[k] ≤ 1048576 := by
        rcases Int.lt_or_le 1048576 zs[k] with h | h
        · exfalso
          exact hn (Or.inl (by unfold classI; rw [if_neg (by omega)]))
        · exact h
      have hc16 := classI_in zs[k] hz1 hz2
      obtain ⟨g1, g2, g3, g4, _⟩ := hT.fine (classI zs[k]).toNat f2 f1 hc16 (by omega) (by rw [f3]; omega)
      refine ⟨g1, g2, by rw [g4, f3], ?_⟩
      rw [g3]
      have e : (d.limit : Int) - (((takeAll T d (zs.take k)).2.used + (classI zs[k]).toNat : Nat) : Int) = (d.limit : Int) - ((takeAll T d (zs.take k)).2.used : Int) - classI zs[k] := by omega
      rw [e]
      exact f4
/-- .. and the next one. -/
theorem takeAll_next {T : AD → Nat → Nat × AD} {G : AD → Prop} (hT : TakeOK T G) {d : AD} (hG : G d) (hF : d.Fine) {zs : List Int} (ha : allOne zs) (hf : fitsIn ((d.limit : Int) - (d.used : Int)) zs = true) {k : Nat} (hk : k < zs.length) :
    (classI zs[k]).toNat ∈ classList ∧ (classI zs[k]).toNat ≤ 1048576 ∧ (takeAll T d (zs.take k)).2.used + (classI zs[k]).toNat ≤ (takeAll T d (zs.take k)).2.limit ∧ classI zs[k] = ((classI zs[k]).toNat : Int) := by
  obtain ⟨f1, f2, f3, f4⟩ := takeAll_take hT hG hF ha hf k (by omega)
  rw [fitsIn_drop_succ hk] at f4
  have hz1 : 1 ≤ zs[k] := ha _ (List.getElem_mem hk)
  split at f4
  · cases f4
  · rename_i hn
    have hb := classI_bounds zs[k]
    have hz2 : zs[k] ≤ 1048576 := by
      rcases Int.lt_or_le 1048576 zs[k] with h | h
      · exfalso
        exact hn (Or.inl (by unfold classI; rw [if_neg (by omega)]))
      · exact h
    have hc16 := classI_in zs[k] hz1 hz2
    exact ⟨hc16, by omega, by rw [f3]; omega, by omega⟩

/-- The row of k offsets that are told and zeros behind. -/
def offRow (n : Nat) (xs : List Int) : Array Value := ((xs ++ List.replicate (n - xs.length) 0).map cellI).toArray
theorem offRow_size {n : Nat} {xs : List Int} (h : xs.length ≤ n) : (offRow n xs).size = n := by simp [offRow]; omega
theorem offRow_zero (n : Nat) : madeCells (Value.int .i64 0).cells (n * 1) = offRow n [] := by
  apply Array.ext
  · simp [size_madeCells, offRow]
  · intro i h1 h2
    simp [madeCells, Value.cells, offRow, cellI, Nat.mod_one]
theorem offRow_set {n : Nat} {xs : List Int} (x : Int) (h : xs.length < n) : (offRow n xs).setIfInBounds xs.length (cellI x) = offRow n (xs ++ [x]) := by
  apply Array.ext'
  obtain ⟨m, hm⟩ : ∃ m, n - xs.length = m + 1 := ⟨n - xs.length - 1, by omega⟩
  have hm' : n - (xs.length + 1) = m := by omega
  rw [Array.toList_setIfInBounds]
  simp [offRow, hm, hm', List.replicate_succ]
theorem offRow_full (xs : List Int) : offRow xs.length xs = (xs.map cellI).toArray := by simp [offRow]

def AllPost (w : World) (p : Nat) (F : Nat → Prop) (offs : List Int) (d' : AD) (e : Ending) (w' : World) : Prop :=
  ∃ h, w.heap.size ≤ h ∧ e = .returned (.tuple #[.slice (some ⟨h, 0, none⟩) offs.length offs.length, .int .i64 0]) ∧ w'.heap[h]? = some (.cells (offs.map cellI).toArray 3) ∧
    Arena w' p (fun k => (F k ∨ w.heap.size ≤ k) ∧ k ≠ h) d' ∧ Keeps w w' F
end Go.Proofs.YtgckinldnnckoaaGreatDoor
namespace Go.Proofs.YtgckinldnnckoaaGreatDoor
open Go.RowKit Go.Shelf

/-- make of n ints. -/
theorem run_make_ints {P : Program} (w : World) (t : TypeId) (hu : P.underlying t = some (.slice 3)) (hi : (P.info? 3).map (fun i => (i.zero, i.size, i.bytes)) = some (some (.int .i64 0), 1, 8)) (n : Nat) (hn : n ≤ 134217728) :
    (Instr.makeSlice t (.int .i64 (n : Int)) (.int .i64 (n : Int))).run P w = .ok (.slice (some ⟨w.heap.size, 0, none⟩) n n) (w.alloc (.cells (offRow n []) 3)) := by
  obtain ⟨i, h1, h2, h3, h4⟩ := info_parts hi
  have h := run_make (P := P) w t 3 i (.int .i64 0) hu h1 h2 .i64 .i64 (n : Int) (n : Int) (by omega) (by omega) (by rw [h4]; omega) (by omega)
  rw [h, h3]
  simp only [Int.toNat_natCast, offRow_zero]

theorem allOne_fits_zero {d : AD} {zs : List Int} (ha : allOne zs) (hf : fitsIn ((d.limit : Int) - (d.used : Int)) zs = true) : refE d zs = 0 := by
  unfold refE
  rw [if_pos ha, if_pos hf]

/-- Behind k of them. -/
def AllRel (T : AD → Nat → Nat × AD) (w : World) (p : Nat) (F : Nat → Prop) (d : AD) (zs : List Int) (H k : Nat) (wr : World) : Prop :=
  wr.heap[H]? = some (.cells (offRow zs.length (takeAll T d (zs.take k)).1) 3) ∧ Arena wr p (fun x => (F x ∨ w.heap.size ≤ x) ∧ x ≠ H) (takeAll T d (zs.take k)).2 ∧ Keeps w wr F
theorem AllRel.step {T : AD → Nat → Nat × AD} {w wr w2 : World} {p : Nat} {F : Nat → Prop} {d : AD} {zs : List Int} {H k : Nat} (hR : AllRel T w p F d zs H k wr) (hH : w.heap.size ≤ H) (hk : k < zs.length)
    (ht : Turned wr w2 p (fun x => (F x ∨ w.heap.size ≤ x) ∧ x ≠ H) (T (takeAll T d (zs.take k)).2 (classI zs[k]).toNat).2) :
    w2.cell? ⟨H, k, none⟩ = some (.int .i64 0) ∧ w2.frozen? ⟨H, k, none⟩ = false ∧ AllRel T w p F d zs H (k + 1) (w2.setCell ⟨H, k, none⟩ (.int .i64 ((T (takeAll T d (zs.take k)).2 (classI zs[k]).toNat).1 : Int))) := by
  obtain ⟨r1, r2, r3⟩ := hR
  obtain ⟨a2, k2⟩ := ht
  have hHlt := heap_lt r1
  have r1' := (k2.block H hHlt (fun e => e.2 rfl)).trans r1
  have hlen : (takeAll T d (zs.take k)).1.length = k := by rw [takeAll_length, List.length_take]; omega
  have hz : (offRow zs.length (takeAll T d (zs.take k)).1)[k]? = some (.int .i64 0) := by
    obtain ⟨m, hm⟩ : ∃ m, zs.length - k = m + 1 := ⟨zs.length - k - 1, by omega⟩
    simp [offRow, hlen, hm, List.replicate_succ, cellI]
  refine ⟨by simp only [World.cell?, r1']; simpa using hz, by simp [World.frozen?, r1'], ?_, ?_, ?_⟩
  · rw [List.take_succ_eq_append_getElem hk, takeAll_snoc]
    have hs := setCell_eq_setRow w2 H k _ 3 (0, 0) (.int .i64 ((T (takeAll T d (zs.take k)).2 (classI zs[k]).toNat).1 : Int)) r1'
    rw [hs, heap_setRow_same r1']
    have := offRow_set (n := zs.length) (xs := (takeAll T d (zs.take k)).1) ((T (takeAll T d (zs.take k)).2 (classI zs[k]).toNat).1 : Int) (by omega)
    rw [hlen] at this
    rw [← this]
    rfl
  · rw [List.take_succ_eq_append_getElem hk, takeAll_snoc]
    have kS : Keeps w2 (w2.setCell ⟨H, k, none⟩ (.int .i64 ((T (takeAll T d (zs.take k)).2 (classI zs[k]).toNat).1 : Int))) (fun x => x = H) := (Keeps.refl w2 (fun x => x = H)).setCell ⟨H, k, none⟩ (fun _ => rfl) _
    have a3 := a2.keeps kS (fun i _ hi e => by
      rcases hi with hi | hi
      · exact hi.2 e
      · omega)
    refine a3.mono (fun i _ hi => ?_)
    rcases hi with hi | hi
    · exact hi
    · exact ⟨Or.inr (by have := r3.size; omega), by omega⟩
  · have kS : Keeps w2 (w2.setCell ⟨H, k, none⟩ (.int .i64 ((T (takeAll T d (zs.take k)).2 (classI zs[k]).toNat).1 : Int))) (fun x => x = H) := (Keeps.refl w2 (fun x => x = H)).setCell ⟨H, k, none⟩ (fun _ => rfl) _
    exact (r3.trans k2 (fun i hi e => by
      rcases e.1 with e1 | e1
      · exact e1
      · omega)).trans kS (fun i hi e => by omega)

set_option maxHeartbeats 2000000 in
theorem allocAll_some {T : AD → Nat → Nat × AD} {G : AD → Prop} (hT : TakeOK T G) {w : World} {p : Nat} {F : Nat → Prop} {d : AD} (h : Arena w p F d) (hG : G d) (hF : d.Fine) (b o cap : Nat) (zs : List Int) (hz : ∀ j (h : j < zs.length), w.cell? ⟨b, o + j, none⟩ = some (.int .i64 zs[j]))
    (hb : ¬ F b) (hbl : b < w.heap.size) (h0 : 0 < zs.length) (ha : Hid (allOne zs)) (hf : Hid (fitsIn ((d.limit : Int) - (d.used : Int)) zs = true)) :
    Calls Tryz.prog 67 #[.pointer (some ⟨p, 0, none⟩), .slice (some ⟨b, o, none⟩) zs.length cap] w fun e w' => AllPost w p F (takeAll T d zs).1 (takeAll T d zs).2 e w' := by
  have hlen := fitsIn_len zs _ hf.out ha.out (by have := hF.use; omega)
  have hlim := hF.lim
  have hbig : zs.length ≤ 134217728 := by omega
  have hR : Calls Tryz.prog 103 #[.pointer (some ⟨p, 0, none⟩), .slice (some ⟨b, o, none⟩) zs.length cap] w fun e w' => RefPost w 0 e w' := by
    obtain ⟨c, hc, _⟩ := h
    have := refused_any hc hF (some ⟨b, o, none⟩) cap zs (by omega) (fun j hj => ⟨b, o, rfl, hz j hj⟩)
    rwa [allOne_fits_zero ha.out hf.out] at this
  go_enter Tryz.func67, Tryz.ntmps67
  go_wp2_with fail
  refine hR.mono ?_
  rintro e w1 ⟨rfl, k1⟩
  clear hR
  have hmk := run_make_ints (P := Tryz.prog) w1 22 Tryz.underlying22 Tryz.infoI zs.length hbig
  have hrel0 : AllRel T w p F d zs w1.heap.size 0 (w1.alloc (.cells (offRow zs.length []) 3)) := by
    refine ⟨heap_alloc_new _ _, ?_, (k1.mono (fun _ _ e => e.elim)).alloc _⟩
    have k2 : Keeps w (w1.alloc (.cells (offRow zs.length []) 3)) (fun _ => False) := k1.alloc _
    have hs1 := k1.size
    exact (h.mono (G := fun x => (F x ∨ w.heap.size ≤ x) ∧ x ≠ w1.heap.size) (fun i hi hFi => ⟨Or.inl hFi, by omega⟩)).keeps k2 (fun _ _ _ e => e)
  have hH := k1.size
  go_wp2_with fail
  go_loopw [21] (fun i wr => ∃ k : Nat, i = .int .i64 (k : Int) ∧ k ≤ zs.length ∧ AllRel T w p F d zs w1.heap.size k wr) (fun i _ => zs.length - (intOf i).toNat)
  case atStart => exact ⟨0, rfl, Nat.zero_le _, hrel0⟩
  case round =>
    obtain ⟨k, rfl, hk, hR⟩ := hrel
    clear hrel0 hmk
    by_cases hlt : k < zs.length
    · have hlt' : (k : Int) < (zs.length : Int) := by omega
      have hck := (World.cell?_of_block (w := w) (a := ⟨b, o + k, none⟩) (hR.2.2.block b hbl hb)).trans (hz k hlt)
      obtain ⟨n1, n2, n3, n4⟩ := takeAll_next hT hG hF ha.out hf.out hlt
      obtain ⟨f1, f2, f3, f4⟩ := takeAll_take hT hG hF ha.out hf.out k hk
      have hfin := (hT.fine _ f2 f1 n1 n2 n3).2.2.2.2
      have hTk := hT.call (w := wr) (p := p) (F := fun x => (F x ∨ w.heap.size ≤ x) ∧ x ≠ w1.heap.size) (classI zs[k]).toNat f2 f1 hR.2.1 n1 n2 n3
      have hst := fun w2 => hR.step (w2 := w2) hH hlt
      have hcl := class_any zs[k] wr
      rw [n4] at hcl
      clear hz n4 f1 f2 f3 f4 n3 ha hf
      generalize (classI zs[k]).toNat = cz at *
      generalize zs[k]'hlt = z at *
      go_wp2_with fail
      refine hcl.mono ?_
      rintro e w2 ⟨rfl, rfl⟩
      clear hcl
      go_wp2_with fail
      refine hTk.mono ?_
      rintro e w3 ⟨rfl, ht⟩
      clear hTk
      obtain ⟨s1, s2, s3⟩ := hst w3 ht
      clear hst ht hR hck
      generalize (T (takeAll T d (zs.take k)).2 cz).1 = off at *
      go_wp2_with fail
      go_roundw
      case rel => exact ⟨k + 1, by go_num, by omega, s3⟩
      case measure => simp [intOf]; omega
    · have hlt' : ¬ (k : Int) < (zs.length : Int) := by omega
      have hfin : AllPost w p F (takeAll T d zs).1 (takeAll T d zs).2 (.returned (.tuple #[.slice (some ⟨w1.heap.size, 0, none⟩) zs.length zs.length, .int .i64 0])) wr := by
        obtain ⟨r1, r2, r3⟩ := hR
        have hkz : zs.take k = zs := List.take_of_length_le (by omega)
        rw [hkz] at r1 r2
        refine ⟨w1.heap.size, hH, by rw [takeAll_length], ?_, r2, r3⟩
        rw [r1]
        have := offRow_full (takeAll T d zs).1
        rw [takeAll_length] at this
        rw [this]
      clear hR hz
      go_wp2_with fail
      go_ret2
      exact hfin
end Go.Proofs.YtgckinldnnckoaaGreatDoor
namespace Go.Proofs.YtgckinldnnckoaaGreatDoor
open Go.RowKit Go.Shelf

set_option maxHeartbeats 400000 in
theorem anew_no (n : Int) (w : World) (h : n < 0 ∨ 2097152 < n) :
    Calls Tryz.prog 26 #[.int .i64 n] w fun e w' => e = .returned (.tuple #[.pointer none, .int .i64 20]) ∧ w' = w := by
  rcases h with h | h
  · go_enter Tryz.func26, Tryz.ntmps26
    go_wp2
    go_ret2
    exact ⟨rfl, rfl⟩
  · have h0 : ¬ n < 0 := by omega
    go_enter Tryz.func26, Tryz.ntmps26
    go_wp2
    go_ret2
    exact ⟨rfl, rfl⟩

/-- An arena without blocks. -/
def AD.fresh (limit : Nat) : AD := { limit := limit, used := 0, bs := zeros 16, L := [], lv := fun _ => none, fm := fun _ => none }
theorem AD.fresh_fine {limit : Nat} (h : limit ≤ 2097152) : (AD.fresh limit).Fine :=
  { tiles := by simp [AD.fresh, Tiles, zeros_length]
    live := fun x s hs => by simp [AD.fresh] at hs
    most := by simp [AD.fresh, zeros_length]
    lim := h
    use := Nat.zero_le _
    sum := rfl
    free := ⟨fun _ _ h => (nomatch h), fun _ _ h => (nomatch h), fun _ _ h => (nomatch h), fun _ h => (nomatch h)⟩ }
def ANewPost (w : World) (limit : Nat) (e : Ending) (w' : World) : Prop :=
  ∃ p, e = .returned (.tuple #[.pointer (some ⟨p, 0, none⟩), .int .i64 0]) ∧ Arena w' p (fun k => w.heap.size ≤ k) (AD.fresh limit) ∧ Keeps w w' (fun _ => False)

set_option maxHeartbeats 1000000 in
theorem anew_yes (n : Nat) (w : World) (h : n ≤ 2097152) :
    Calls Tryz.prog 26 #[.int .i64 (n : Int)] w fun e w' => ANewPost w n e w' := by
  have h0 : ¬ (n : Int) < 0 := by omega
  have h1 : ¬ (2097152 : Int) < (n : Int) := by omega
  have hnew := new_yes 16 w (by omega)
  have hmm := @run_makeMap Tryz.prog
  go_enter Tryz.func26, Tryz.ntmps26
  go_wp2_with fail
  refine hnew.mono ?_
  rintro e w1 ⟨b, g, hb, hg, rfl, m, k⟩
  clear hnew
  have hfin : ANewPost w n (.returned (.tuple #[.pointer (some ⟨w1.heap.size + 1 + 1, 0, none⟩), .int .i64 0])) (((w1.alloc (.map #[] 0)).alloc (.map #[] 0)).alloc (.cells #[.int .i64 (n : Int), .int .i64 0, .pointer (some ⟨b, 0, none⟩), .slice none 0 0, .map (some w1.heap.size), .map (some (w1.heap.size + 1))] 112)) := by
    have k1 : Keeps w1 (w1.alloc (.map #[] 0)) (fun _ => False) := (Keeps.refl _ _).alloc _
    have k2 : Keeps (w1.alloc (.map #[] 0)) ((w1.alloc (.map #[] 0)).alloc (.map #[] 0)) (fun _ => False) := (Keeps.refl _ _).alloc _
    have k3 : Keeps ((w1.alloc (.map #[] 0)).alloc (.map #[] 0)) (((w1.alloc (.map #[] 0)).alloc (.map #[] 0)).alloc (.cells #[.int .i64 (n : Int), .int .i64 0, .pointer (some ⟨b, 0, none⟩), .slice none 0 0, .map (some w1.heap.size), .map (some (w1.heap.size + 1))] 112)) (fun _ => False) := (Keeps.refl _ _).alloc _
    have e1 : (w1.alloc (.map #[] 0)).heap.size = w1.heap.size + 1 := by simp
    have e2 : ((w1.alloc (.map #[] 0)).alloc (.map #[] 0)).heap.size = w1.heap.size + 1 + 1 := by simp
    have K := ((k.trans k1 (fun _ _ e => e)).trans k2 (fun _ _ e => e)).trans k3 (fun _ _ e => e)
    have hs := k.size
    have m1 := MapTo.made (c := cInt) Tryz.prog w1
    have m2 := MapTo.made (c := cPtr) Tryz.prog (w1.alloc (.map #[] 0))
    rw [e1] at m2
    refine ⟨w1.heap.size + 1 + 1, rfl, ⟨{ b := b, g := g, bl := w1.heap.size, bf := w1.heap.size + 1, v := .slice none 0 0, sp := [], nl := 0, nf := 0, hb := fun _ => none, fv := fun _ => .slice none 0 0 }, ⟨?_, ?_, ?_, ?_, ?_, by simp, ⟨fun _ => rfl, fun _ _ _ e => (nomatch e), fun _ _ _ e => (nomatch e), fun _ _ _ _ _ e => (nomatch e)⟩⟩, ?_⟩, K⟩
    · have := heap_alloc_new ((w1.alloc (.map #[] 0)).alloc (.map #[] 0)) (.cells #[.int .i64 (n : Int), .int .i64 0, .pointer (some ⟨b, 0, none⟩), .slice none 0 0, .map (some w1.heap.size), .map (some (w1.heap.size + 1))] 112)
      rw [e2] at this
      exact this
    · exact ((m.keeps k1 id id).keeps k2 id id).keeps k3 id id
    · exact World.ownsRow_nil _ _ _ _
    · exact (m1.keeps k2 id).keeps k3 id
    · exact m2.keeps k3 id
    · intro x hx
      rcases hx with rfl | rfl | rfl | rfl | rfl | e | ⟨_, _, e, _⟩
      · omega
      · exact hb
      · exact hg
      · exact hs
      · show w.heap.size ≤ w1.heap.size + 1
        omega
      · cases e
      · cases e
  clear k m hb hg
  go_wp2_with fail
  go_ret2
  exact hfin
end Go.Proofs.YtgckinldnnckoaaGreatDoor
namespace Go.Proofs.YtgckinldnnckoaaGreatDoor
open Go.RowKit Go.Shelf

/-- While nothing was freed. -/
def newT (d : AD) (c : Nat) : Nat × AD := (d.bs.length, d.took c)
def newG (d : AD) : Prop := (∀ x, d.fm x = none) ∧ d.bs.length = 16 + d.used
theorem newG_fresh (limit : Nat) : newG (AD.fresh limit) := ⟨fun _ => rfl, by simp [AD.fresh, zeros_length]⟩
theorem newOK : TakeOK newT newG where
  call := fun {w p F d} c hG hF h _ _ h3 => by
    have := hF.lim
    have := hG.2
    exact take_new h hF c (by omega) (hG.1 _)
  fine := fun {d} c hG hF h1 _ h3 => by
    have h1 := (show ∀ c ∈ classList, 16 ≤ c by decide) c h1
    have := hF.lim
    have h4 := hG.2
    refine ⟨hF.took (by omega) (by omega) h3, ⟨hG.1, ?_⟩, rfl, rfl, by simp [newT]; omega⟩
    show (d.bs ++ zeros c).length = 16 + (d.used + c)
    rw [List.length_append, zeros_length]
    omega

def AllocPost (w : World) (p : Nat) (F : Nat → Prop) (o : Nat) (d' : AD) (e : Ending) (w' : World) : Prop := e = .returned (.tuple #[.int .i64 (o : Int), .int .i64 0]) ∧ Turned w w' p F d'

set_option maxHeartbeats 1000000 in
theorem alloc_yes {T : AD → Nat → Nat × AD} {G : AD → Prop} (hT : TakeOK T G) {w : World} {p : Nat} {F : Nat → Prop} {d : AD} (h : Arena w p F d) (hFl : ∀ k, F k → k < w.heap.size) (hG : G d) (hF : d.Fine) (n : Nat) (h1 : 1 ≤ n) (h2 : n ≤ 1048576) (h3 : d.used + classN n ≤ d.limit) :
    Calls Tryz.prog 56 #[.pointer (some ⟨p, 0, none⟩), .int .i64 (n : Int)] w fun e w' => AllocPost w p F (T d (classN n)).1 (T d (classN n)).2 e w' := by
  have hcn : classI (n : Int) = (classN n : Int) := by unfold classI; rw [if_pos (by omega)]; simp
  have hcl := class_le n h1 h2
  have hA : Calls Tryz.prog 67 #[.pointer (some ⟨p, 0, none⟩), .slice (some ⟨w.heap.size, 0, none⟩) 1 1] (w.alloc (.cells #[.int .i64 (n : Int)] 3)) fun e w' => AllPost (w.alloc (.cells #[.int .i64 (n : Int)] 3)) p F [((T d (classN n)).1 : Int)] (T d (classN n)).2 e w' := by
    have k0 : Keeps w (w.alloc (.cells #[.int .i64 (n : Int)] 3)) (fun _ => False) := (Keeps.refl _ _).alloc _
    have := allocAll_some hT (h.keeps k0 (fun _ _ _ e => e)) hG hF w.heap.size 0 1 [(n : Int)] (fun j hj => by
      have hj0 : j = 0 := by simpa using hj
      subst hj0
      simp only [World.cell?, heap_alloc_new]
      simp) (fun e => by have := hFl _ e; omega) (by simp) (by simp) (fun z hz => by simp at hz; omega) (by
      simp only [fitsIn]
      rw [if_neg (by rw [hcn]; omega)]
      rfl)
    simpa [takeAll, hcn] using this
  have hoff := (hT.fine (classN n) hG hF (class_in n h1 h2) hcl.2.2.1 h3).2.2.2.2
  have hs0 : ∀ W' p' F' x d' e, AllPost (w.alloc (.cells #[.int .i64 (n : Int)] 3)) p' F' [x] d' e W' → ∃ hh, w.heap.size ≤ hh ∧ e = .returned (.tuple #[.slice (some ⟨hh, 0, none⟩) 1 1, .int .i64 0]) ∧ W'.cell? ⟨hh, 0, none⟩ = some (.int .i64 x) ∧ Turned w W' p' F' d' := by
    rintro W' p' F' x d' e ⟨hh, a1, a2, a3, a4, a5⟩
    have k0 : Keeps w (w.alloc (.cells #[.int .i64 (n : Int)] 3)) F' := (Keeps.refl _ _).alloc _
    refine ⟨hh, by simp at a1; omega, a2, ?_, a4.mono (fun i _ hi => ?_), k0.trans a5 (fun _ _ e => e)⟩
    · simp [World.cell?, a3, cellI]
    · rcases hi.1 with hi | hi
      · exact Or.inl hi
      · exact Or.inr (by simp at hi; omega)
  generalize (T d (classN n)).1 = off at *
  generalize (T d (classN n)).2 = d2 at *
  clear h hG hF hcl h3 hcn
  go_enter Tryz.func56, Tryz.ntmps56
  go_wp2_with fail
  refine hA.mono ?_
  intro e w2 hp2
  obtain ⟨hh, _, rfl, hc, ht⟩ := hs0 _ _ _ _ _ _ hp2
  clear hA hs0 hp2
  go_wp2_with fail
  go_ret2
  exact ⟨rfl, ht⟩
end Go.Proofs.YtgckinldnnckoaaGreatDoor
/-
  Plain laws on numbers of bytes, the lowest first.
-/
namespace Go.Proofs.YtgckinldnnckoaaGreatDoor
open Go.RowKit

/-- The number of the bytes, the lowest first. -/
def numOf : List UInt8 → Nat
  | [] => 0
  | x :: r => x.toNat + 256 * numOf r
theorem numOf_lt : ∀ l : List UInt8, numOf l < 256 ^ l.length
  | [] => by simp [numOf]
  | x :: r => by
    have h := numOf_lt r
    have hx := x.toNat_lt
    simp only [numOf, List.length_cons, Nat.pow_succ]
    omega
theorem numOf_snoc (l : List UInt8) (x : UInt8) : numOf (l ++ [x]) = numOf l + x.toNat * 256 ^ l.length := by
  induction l with
  | nil => simp [numOf]
  | cons y r ih =>
    simp only [List.cons_append, numOf, ih, List.length_cons, Nat.pow_succ, Nat.mul_add]
    have : 256 * (x.toNat * 256 ^ r.length) = x.toNat * (256 ^ r.length * 256) := by rw [Nat.mul_comm, Nat.mul_assoc]
    omega
theorem numOf_append (a b : List UInt8) : numOf (a ++ b) = numOf a + 256 ^ a.length * numOf b := by
  induction a with
  | nil => simp [numOf]
  | cons y r ih =>
    simp only [List.cons_append, numOf, ih, List.length_cons, Nat.pow_succ, Nat.mul_add]
    have : 256 * (256 ^ r.length * numOf b) = 256 ^ r.length * 256 * numOf b := by rw [← Nat.mul_assoc, Nat.mul_comm 256]
    omega
theorem pow_byte (k : Nat) : (2 : Nat) ^ (8 * k) = 256 ^ k := by rw [Nat.pow_mul]

theorem bits_or_nat (a b : Nat) (ha : a < 18446744073709551616) (hb : b < 18446744073709551616) : bits .or .u64 (a : Int) (b : Int) = ((a ||| b : Nat) : Int) := by
  have hx : a ||| b < 2 ^ 64 := Nat.or_lt_two_pow (by omega) (by omega)
  have h1 : (BitVec.ofInt 64 (a : Int)).toNat = a := by
    rw [BitVec.ofInt_natCast, BitVec.toNat_ofNat]
    exact Nat.mod_eq_of_lt (by omega)
  have h2 : (BitVec.ofInt 64 (b : Int)).toNat = b := by
    rw [BitVec.ofInt_natCast, BitVec.toNat_ofNat]
    exact Nat.mod_eq_of_lt (by omega)
  show IntKind.u64.wrap ((BitVec.ofInt 64 (a : Int) ||| BitVec.ofInt 64 (b : Int)).toNat : Int) = _
  rw [BitVec.toNat_or, h1, h2, IntKind.wrap_u64]
  omega
theorem or_step (N k : Nat) (x : UInt8) (hN : N < 256 ^ k) (hk : k < 8) : bits .or .u64 (N : Int) (IntKind.u64.wrap ((x.toNat : Int) * 2 ^ (8 * k))) = ((N + x.toNat * 256 ^ k : Nat) : Int) := by
  have hx := x.toNat_lt
  have hp : (256 : Nat) ^ k ≤ 256 ^ 7 := Nat.pow_le_pow_right (by omega) (by omega)
  have hm : x.toNat * 256 ^ k ≤ 255 * 256 ^ 7 := Nat.mul_le_mul (by omega) hp
  have e : ((x.toNat : Int) * 2 ^ (8 * k)) = ((x.toNat * 256 ^ k : Nat) : Int) := by
    rw [← pow_byte]
    simp
  rw [e, IntKind.wrap_u64]
  have e2 : ((x.toNat * 256 ^ k : Nat) : Int) % 18446744073709551616 = ((x.toNat * 256 ^ k : Nat) : Int) := by
    have : x.toNat * 256 ^ k < 18446744073709551616 := by omega
    omega
  rw [e2, bits_or_nat _ _ (by omega) (by omega)]
  congr 1
  have h := Nat.shiftLeft_add_eq_or_of_lt (i := 8 * k) (b := N) (by rw [pow_byte]; exact hN) x.toNat
  rw [Nat.shiftLeft_eq, pow_byte] at h
  rw [Nat.or_comm, ← h, Nat.add_comm]
end Go.Proofs.YtgckinldnnckoaaGreatDoor
namespace Go.Proofs.YtgckinldnnckoaaGreatDoor
open Go.RowKit

/-- A number may have 1, 2, 4 or 8 bytes. -/
def widthB (n : Int) : Bool := decide (n = 1 ∨ n = 2 ∨ n = 4 ∨ n = 8)
theorem widthB_true {n : Int} (h : widthB n = true) : n = 1 ∨ n = 2 ∨ n = 4 ∨ n = 8 := of_decide_eq_true h
theorem widthB_false {n : Int} (h : widthB n = false) : n ≠ 1 ∧ n ≠ 2 ∧ n ≠ 4 ∧ n ≠ 8 := by
  have := of_decide_eq_false h
  omega

set_option maxHeartbeats 400000 in
theorem number_width (w : World) (p : Value) (off n : Int) (h : widthB n = false) :
    Calls Tryz.prog 85 #[p, .int .i64 off, .int .i64 n] w fun e w' => e = .returned (.int .i64 10) ∧ w' = w := by
  obtain ⟨h1, h2, h3, h4⟩ := widthB_false h
  have b1 : (n != 1) = true := bne_iff_ne.2 h1
  have b2 : (n != 2) = true := bne_iff_ne.2 h2
  have b3 : (n != 4) = true := bne_iff_ne.2 h3
  have b4 : (n != 8) = true := bne_iff_ne.2 h4
  clear h h1 h2 h3 h4
  go_enter Tryz.func85, Tryz.ntmps85
  go_wp2_with fail
  go_ret
  exact ⟨rfl, rfl⟩

set_option maxHeartbeats 400000 in
theorem number_out (w : World) (b g : Nat) (bs sp : List UInt8) (m : MemAt 163 5 w b g bs sp) (off n : Int) (h : widthB n = true) (h2 : insideB bs.length off n = false) :
    Calls Tryz.prog 85 #[.pointer (some ⟨b, 0, none⟩), .int .i64 off, .int .i64 n] w fun e w' => e = .returned (.int .i64 11) ∧ w' = w := by
  have hin := inside_no w b g bs sp m off n h2
  clear h2 m
  rcases widthB_true h with rfl | rfl | rfl | rfl
  all_goals
    clear h
    go_enter Tryz.func85, Tryz.ntmps85
    go_wp2_with fail
    refine hin.mono ?_
    rintro e w' ⟨rfl, rfl⟩
    clear hin
    go_wp2_with fail
    go_ret
    exact ⟨rfl, rfl⟩

set_option maxHeartbeats 400000 in
theorem number_yes (w : World) (b g : Nat) (bs sp : List UInt8) (m : MemAt 163 5 w b g bs sp) (off n : Int) (h : widthB n = true) (h2 : insideB bs.length off n = true) :
    Calls Tryz.prog 85 #[.pointer (some ⟨b, 0, none⟩), .int .i64 off, .int .i64 n] w fun e w' => e = .returned (.int .i64 0) ∧ w' = w := by
  have hin := inside_yes w b g bs sp m off n h2
  clear h2 m
  rcases widthB_true h with rfl | rfl | rfl | rfl
  all_goals
    clear h
    go_enter Tryz.func85, Tryz.ntmps85
    go_wp2_with fail
    refine hin.mono ?_
    rintro e w' ⟨rfl, rfl⟩
    clear hin
    go_wp2_with fail
    go_ret
    exact ⟨rfl, rfl⟩

set_option maxHeartbeats 400000 in
theorem load_width (w : World) (p : Value) (off n : Int) (h : widthB n = false) :
    Calls Tryz.prog 52 #[p, .int .i64 off, .int .i64 n] w fun e w' => e = .returned (.tuple #[.int .u64 0, .int .i64 10]) ∧ w' = w := by
  go_enter Tryz.func52, Tryz.ntmps52
  go_wp2_with fail
  refine (number_width _ _ _ _ h).mono ?_
  rintro e w' ⟨rfl, rfl⟩
  go_wp2_with fail
  go_ret2
  exact ⟨rfl, rfl⟩

set_option maxHeartbeats 400000 in
theorem load_out (w : World) (b g : Nat) (bs sp : List UInt8) (m : MemAt 163 5 w b g bs sp) (off n : Int) (h : widthB n = true) (h2 : insideB bs.length off n = false) :
    Calls Tryz.prog 52 #[.pointer (some ⟨b, 0, none⟩), .int .i64 off, .int .i64 n] w fun e w' => e = .returned (.tuple #[.int .u64 0, .int .i64 11]) ∧ w' = w := by
  go_enter Tryz.func52, Tryz.ntmps52
  go_wp2_with fail
  refine (number_out _ b g bs sp m _ _ h h2).mono ?_
  rintro e w' ⟨rfl, rfl⟩
  go_wp2_with fail
  go_ret2
  exact ⟨rfl, rfl⟩

set_option maxHeartbeats 1000000 in
theorem load_yes (w : World) (b g : Nat) (bs sp : List UInt8) (m : MemAt 163 5 w b g bs sp) (o n : Nat) (h : widthB (n : Int) = true) (h2 : o + n ≤ bs.length) :
    Calls Tryz.prog 52 #[.pointer (some ⟨b, 0, none⟩), .int .i64 (o : Int), .int .i64 (n : Int)] w fun e w' => e = .returned (.tuple #[.int .u64 (numOf ((bs.drop o).take n) : Int), .int .i64 0]) ∧ w' = w := by
  have hl : bs.length + sp.length ≤ 134217728 := m.hmax
  have hnum := number_yes w b g bs sp m o n h (insideB_mk h2)
  have hs1 := span_any w b g bs sp m o n h2
  obtain ⟨q, hq, hv⟩ := spanVal_eq g (bs.length + sp.length) o n
  rw [hv] at hs1
  have hn8 : n ≤ 8 := by have := widthB_true h; omega
  have hcell := fun j hj => m.gcell j hj
  clear hv m
  go_enter Tryz.func52, Tryz.ntmps52
  go_wp2_with fail
  refine hnum.mono ?_
  rintro e w' ⟨rfl, rfl⟩
  clear hnum
  go_wp2_with fail
  refine hs1.mono ?_
  rintro e w' ⟨rfl, rfl⟩
  clear hs1
  go_wp2_with fail
  go_loop [9, 24] (fun v i => ∃ k : Nat, k ≤ n ∧ i = .int .i64 (k : Int) ∧ v = .int .u64 (numOf ((bs.drop o).take k) : Int)) (fun _ i => n - (intOf i).toNat)
  case atStart => exact ⟨0, Nat.zero_le _, rfl, rfl⟩
  case round =>
    obtain ⟨k, hk, rfl, rfl⟩ := hrel
    by_cases hlt : k < n
    · have hqo : q = o := by
        rcases hq with hq | ⟨_, hz⟩
        · exact hq
        · omega
      have hc := hcell (q + k) (by omega)
      clear hcell
      have hstep : numOf ((bs.drop o).take (k + 1)) = numOf ((bs.drop o).take k) + (bs[q + k]'(by omega)).toNat * 256 ^ k := by
        have hl1 : ((bs.drop o).take k).length = k := by simp; omega
        have ht : (bs.drop o).take (k + 1) = (bs.drop o).take k ++ [bs[q + k]'(by omega)] := by
          rw [List.take_succ_eq_append_getElem (by simp; omega)]
          simp [hqo]
        rw [ht, numOf_snoc, hl1]
      have hlt8 := numOf_lt ((bs.drop o).take k)
      rw [show ((bs.drop o).take k).length = k from by simp; omega] at hlt8
      have HS : Hid (numOf ((bs.drop o).take (k + 1)) = numOf ((bs.drop o).take k) + (bs[q + k]'(by omega)).toNat * 256 ^ k) := hstep
      clear hstep
      generalize bs[q + k]'(by omega) = x at *
      generalize hN : numOf ((bs.drop o).take k) = N at *
      have hor := or_step N k x hlt8 (by omega)
      have HO : Hid (bits .or .u64 (N : Int) (IntKind.u64.wrap ((x.toNat : Int) * 2 ^ (8 * k))) = ((N + x.toNat * 256 ^ k : Nat) : Int)) := hor
      have hx := x.toNat_lt
      clear hN hqo hq h hlt8 hor
      go_wp2
      go_round
      case rel => exact ⟨k + 1, by omega, by go_num, by rw [HO.out, HS.out]⟩
      case measure => simp [intOf]; omega
    · have hall : k = n := by omega
      subst hall
      go_wp2
      go_ret2
      exact ⟨rfl, rfl⟩
end Go.Proofs.YtgckinldnnckoaaGreatDoor
