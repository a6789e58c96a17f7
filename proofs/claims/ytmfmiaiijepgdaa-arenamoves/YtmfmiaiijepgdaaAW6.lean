import Derived.Test.YtmfmiaiijepgdaaAW5
import Derived.Test.YtmfmiaiijepgdaaWalks9
import Derived.Deep.QuietTactic
import Derived.BigQuiet
namespace Go.Proofs.Ytmfmiaiijepgdaa
open Go.RowKit Go.Shelf

/-- A list of ints behind an address. -/
def IntsAt (w : World) (a : Option Addr) (zs : List Int) : Prop := ∀ j (h : j < zs.length), ∃ b o, a = some ⟨b, o, none⟩ ∧ w.cell? ⟨b, o + j, none⟩ = some (.int .i64 zs[j])
theorem IntsAt.two {w : World} {a : Option Addr} {zs : List Int} (h : IntsAt w a zs) : zs = [] ∨ ∃ b o, a = some ⟨b, o, none⟩ ∧ 0 < zs.length ∧ ∀ j (h : j < zs.length), w.cell? ⟨b, o + j, none⟩ = some (.int .i64 zs[j]) := by
  cases zs with
  | nil => exact Or.inl rfl
  | cons z r =>
    obtain ⟨b, o, e, _⟩ := h 0 (by simp)
    refine Or.inr ⟨b, o, e, by simp, fun j hj => ?_⟩
    obtain ⟨b', o', e', hc⟩ := h j hj
    rw [e] at e'
    cases e'
    exact hc
theorem IntsAt.keeps {w w' : World} {a : Option Addr} {zs : List Int} {S : Nat → Prop} (h : IntsAt w a zs) (k : Keeps w w' S) (hS : ∀ b o, a = some ⟨b, o, none⟩ → ¬ S b) (hlt : ∀ b o, a = some ⟨b, o, none⟩ → b < w.heap.size) : IntsAt w' a zs := by
  intro j hj
  obtain ⟨b, o, e, hc⟩ := h j hj
  exact ⟨b, o, e, (World.cell?_of_block (w := w) (k.block b (hlt b o e) (hS b o e))).trans hc⟩

theorem class_any (n : Int) (w : World) : Calls Try.prog 9 #[.int .i64 n] w fun e w' => e = .returned (.int .i64 (classI n)) ∧ w' = w := by
  unfold classI
  by_cases h : 1 ≤ n ∧ n ≤ 1048576
  · rw [if_pos h]
    obtain ⟨k, rfl⟩ := Int.eq_ofNat_of_zero_le (show 0 ≤ n by omega)
    exact class_yes k w (by omega) (by omega)
  · rw [if_neg h]
    exact class_no n w (by omega)
theorem classI_bounds (n : Int) : 0 ≤ classI n ∧ classI n ≤ 1048576 := by
  unfold classI
  split
  · rename_i h
    have := class_le n.toNat (by omega) (by omega)
    omega
  · omega

theorem index_any (a : Option Addr) (cap : Nat) (zs : List Int) (w : World) (hbig : zs.length ≤ 140737488355328) (h : IntsAt w a zs) :
    Calls Try.prog 70 #[.slice a zs.length cap, .func (.func 52) #[] #[]] w fun e w' => IdxPost w zs e w' := by
  rcases h.two with rfl | ⟨b, o, rfl, _, hc⟩
  · exact index_nil a cap w
  · exact index_some b o cap zs w hbig hc

def ContPost (w : World) (zs : List Int) (e : Ending) (w' : World) : Prop := ∃ b, e = .returned (.bool b) ∧ w' = w ∧ (b = true → ¬ allOne zs) ∧ (b = false → allOne zs)
set_option maxHeartbeats 400000 in
theorem contains_any (a : Option Addr) (cap : Nat) (zs : List Int) (w : World) (hbig : zs.length ≤ 140737488355328) (h : IntsAt w a zs) :
    Calls Try.prog 51 #[.slice a zs.length cap, .func (.func 52) #[] #[]] w fun e w' => ContPost w zs e w' := by
  have hi := index_any a cap zs w hbig h
  clear h
  go_enter Try.func51, Try.ntmps51
  go_wp2_with fail
  refine hi.mono ?_
  rintro e w1 ⟨i, rfl, rfl, h1, h2, h3, h4⟩
  clear hi
  by_cases h0 : 0 ≤ i
  · have H : Hid (¬ allOne zs) := h3 h0
    clear h3 h4
    go_wp2_with fail
    go_ret
    exact ⟨true, rfl, rfl, fun _ => H.out, fun h => by cases h⟩
  · have H : Hid (allOne zs) := h4 (by omega)
    clear h3 h4
    go_wp2_with fail
    go_ret
    exact ⟨decide (0 ≤ i), rfl, rfl, fun h => absurd (of_decide_eq_true h) (by omega), fun _ => H.out⟩

/-- Is there room for a block of each? -/
def fitsIn : Int → List Int → Bool
  | _, [] => true
  | room, z :: r => if classI z = 0 ∨ room < classI z then false else fitsIn (room - classI z) r
/-- The error. -/
noncomputable def refE (d : AD) (zs : List Int) : Int := open Classical in if allOne zs then (if fitsIn ((d.limit : Int) - (d.used : Int)) zs then 0 else 22) else 21
theorem fitsIn_drop_succ {room : Int} {zs : List Int} {k : Nat} (hk : k < zs.length) : fitsIn room (zs.drop k) = if classI (zs[k]) = 0 ∨ room < classI (zs[k]) then false else fitsIn (room - classI (zs[k])) (zs.drop (k + 1)) := by
  rw [List.drop_eq_getElem_cons hk, fitsIn]

def RefPost (w : World) (x : Int) (e : Ending) (w' : World) : Prop := e = .returned (.int .i64 x) ∧ Keeps w w' (fun _ => False)

set_option maxHeartbeats 1000000 in
theorem refused_ask {w : World} {p : Nat} (a : Option Addr) (cap : Nat) (zs : List Int) (hbig : zs.length ≤ 140737488355328) (hz : IntsAt w a zs) (hno : Hid (¬ allOne zs)) :
    Calls Try.prog 34 #[.pointer (some ⟨p, 0, none⟩), .slice a zs.length cap] w fun e w' => RefPost w 21 e w' := by
  have hc := contains_any a cap zs w hbig hz
  clear hz
  go_enter Try.func34, Try.ntmps34
  go_wp2_with fail
  refine hc.mono ?_
  rintro e w1 ⟨b, rfl, rfl, h1, h2⟩
  obtain rfl : b = true := by
    cases b
    · exact absurd (h2 rfl) hno.out
    · rfl
  clear hc h1 h2
  go_wp2_with fail
  go_ret
  exact ⟨rfl, Keeps.refl _ _⟩

set_option maxHeartbeats 1000000 in
theorem refused_nil {w : World} {p : Nat} {c : AR} {d : AD} (h : ArenaAt w p c d) (hF : d.Fine) (a : Option Addr) (cap : Nat) :
    Calls Try.prog 34 #[.pointer (some ⟨p, 0, none⟩), .slice a 0 cap] w fun e w' => RefPost w 0 e w' := by
  have hc := contains_any a cap [] w (by simp) (fun j hj => by simp at hj)
  have c0 := h.cell0
  have c1 := h.cell1
  have hl := hF.lim
  have hu := hF.use
  clear h hF
  simp only [List.length_nil] at hc
  go_enter Try.func34, Try.ntmps34
  go_wp2_with fail
  refine hc.mono ?_
  rintro e w1 ⟨b, rfl, rfl, h1, h2⟩
  obtain rfl : b = false := by
    cases b
    · rfl
    · exact absurd (fun z hz => by cases hz) (h1 rfl)
  clear hc h1 h2
  have hw : IntKind.i64.wrap ((d.limit : Int) - (d.used : Int)) = (d.limit : Int) - (d.used : Int) := by rw [IntKind.wrap_i64]; omega
  have K0 := Keeps.refl w1 (fun _ => False)
  go_wp2_with fail
  go_quiet (fail)
  go_wp2_with fail
  go_loop [22] (fun i => i = .int .i64 0) (fun _ => 0)
  case atStart => rfl
  case round =>
    subst hrel
    go_wp2_with fail
    go_ret
    exact ⟨rfl, K0.drewN _⟩

set_option maxHeartbeats 2000000 in
theorem refused_some {w : World} {p : Nat} {c : AR} {d : AD} (h : ArenaAt w p c d) (hF : d.Fine) (b o cap : Nat) (zs : List Int) (hbig : zs.length ≤ 140737488355328) (hz : ∀ j (h : j < zs.length), w.cell? ⟨b, o + j, none⟩ = some (.int .i64 zs[j])) (hall : Hid (allOne zs)) (x : Int)
    (hx : Hid (x = if fitsIn ((d.limit : Int) - (d.used : Int)) zs then 0 else 22)) :
    Calls Try.prog 34 #[.pointer (some ⟨p, 0, none⟩), .slice (some ⟨b, o, none⟩) zs.length cap] w fun e w' => RefPost w x e w' := by
  have hc := contains_any (some ⟨b, o, none⟩) cap zs w hbig (fun j hj => ⟨b, o, rfl, hz j hj⟩)
  have c0 := h.cell0
  have c1 := h.cell1
  have hl := hF.lim
  have hu := hF.use
  clear h hF
  have hw : IntKind.i64.wrap ((d.limit : Int) - (d.used : Int)) = (d.limit : Int) - (d.used : Int) := by rw [IntKind.wrap_i64]; omega
  have K0 := Keeps.refl w (fun _ => False)
  obtain ⟨R, hR⟩ : ∃ R : Int, R = (d.limit : Int) - (d.used : Int) := ⟨_, rfl⟩
  rw [← hR] at hx hw
  have hR0 : 0 ≤ R ∧ R ≤ 2097152 := by omega
  go_enter Try.func34, Try.ntmps34
  go_wp2_with fail
  refine hc.mono ?_
  rintro e w1 ⟨t, rfl, rfl, h1, h2⟩
  obtain rfl : t = false := by
    cases t
    · rfl
    · exact absurd hall.out (h1 rfl)
  clear hc h1 h2 hall
  go_wp2_with fail
  go_quiet (fail)
  go_wp2_with fail
  rw [← hR]
  clear c0 c1 hw
  go_loop [5, 22] (fun r i => ∃ (k : Nat) (q : Int), i = .int .i64 (k : Int) ∧ r = .int .i64 q ∧ k ≤ zs.length ∧ Hid (fitsIn R zs = fitsIn q (zs.drop k)) ∧ 0 ≤ q ∧ q ≤ 2097152) (fun _ i => zs.length - (intOf i).toNat)
  case atStart => exact ⟨0, R, rfl, rfl, Nat.zero_le _, rfl, hR0.1, hR0.2⟩
  case round =>
    obtain ⟨k, q, rfl, rfl, hk, hq, hq0, hq1⟩ := hrel
    clear hR hR0
    by_cases hlt : k < zs.length
    · have hlt' : (k : Int) < (zs.length : Int) := by omega
      have hck := hz k hlt
      have hstep := fitsIn_drop_succ (room := q) hlt
      generalize zs[k]'hlt = z at hck hstep
      have hcl := fun W => class_any z W
      have hcb := classI_bounds z
      generalize classI z = cz at hstep hcl hcb
      have HS : Hid (fitsIn q (zs.drop k) = if cz = 0 ∨ q < cz then false else fitsIn (q - cz) (zs.drop (k + 1))) := hstep
      clear hstep hz
      go_wp2_with fail
      refine (hcl _).mono ?_
      rintro e w2 ⟨rfl, rfl⟩
      clear hcl
      by_cases hbad : cz = 0 ∨ q < cz
      · have hx22 : x = 22 := by
          have := hx.out
          rw [hq.out, HS.out, if_pos hbad] at this
          exact this
        subst hx22
        clear hq HS hx
        rcases hbad with hb | hb
        · subst hb
          go_wp2_with fail
          go_ret
          exact ⟨rfl, K0.drewN _⟩
        · have hc0 : ¬ cz = 0 := by omega
          go_wp2_with fail
          go_ret
          exact ⟨rfl, K0.drewN _⟩
      · have hb1 : ¬ cz = 0 := fun h => hbad (Or.inl h)
        have hb2 : ¬ q < cz := fun h => hbad (Or.inr h)
        have hb1' : (cz == 0) = false := beq_eq_false_iff_ne.2 hb1
        have HB : Hid (¬ (cz = 0 ∨ q < cz)) := hbad
        clear hx hbad hb1
        go_wp2_with fail
        go_round
        case rel => exact ⟨k + 1, q - cz, by go_num, by go_num, by omega, by rw [hq.out, HS.out, if_neg HB.out]; exact rfl, by omega, by omega⟩
        case measure => simp [intOf]; omega
    · have hk' : ¬ (k : Int) < (zs.length : Int) := by omega
      have hx0 : x = 0 := by
        have := hx.out
        rw [hq.out, List.drop_eq_nil_of_le (by omega)] at this
        exact this
      subst hx0
      clear hq hx
      go_wp2_with fail
      go_ret
      exact ⟨rfl, K0.drewN _⟩

theorem refused_any {w : World} {p : Nat} {c : AR} {d : AD} (h : ArenaAt w p c d) (hF : d.Fine) (a : Option Addr) (cap : Nat) (zs : List Int) (hbig : zs.length ≤ 140737488355328) (hz : IntsAt w a zs) :
    Calls Try.prog 34 #[.pointer (some ⟨p, 0, none⟩), .slice a zs.length cap] w fun e w' => RefPost w (refE d zs) e w' := by
  unfold refE
  by_cases hall : allOne zs
  · rw [if_pos hall]
    rcases hz.two with rfl | ⟨b, o, rfl, _, hc⟩
    · exact refused_nil h hF a cap
    · exact refused_some h hF b o cap zs hbig hc hall _ rfl
  · rw [if_neg hall]
    exact refused_ask a cap zs hbig hz hall
end Go.Proofs.Ytmfmiaiijepgdaa
