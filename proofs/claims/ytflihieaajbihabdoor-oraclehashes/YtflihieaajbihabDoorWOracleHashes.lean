import Derived.Test.YtflihieaajbihabDoorOR5
namespace Go.Proofs.YtflihieaajbihabDoor
open Go.RowKit
namespace oracleHashes
set_option linter.unusedVariables false

structure AskD where
  m : Int
  s : Nat
  k : ByteArray
/-- A row of asks. -/
def RowA (w : World) (a : Option Addr) (n : Nat) (qs : List AskD) : Prop :=
  n = qs.length ∧ ∀ j (hj : j < qs.length), ∃ b o, a = some ⟨b, o, none⟩ ∧ w.cell? ⟨b, o + j * 3, none⟩ = some (.int .i64 qs[j].m) ∧ w.cell? ⟨b, o + j * 3 + 1, none⟩ = some (.int .u64 (qs[j].s : Nat)) ∧ w.cell? ⟨b, o + j * 3 + 2, none⟩ = some (.string qs[j].k) ∧ qs[j].s < 18446744073709551616 ∧ qs[j].k.size < 9223372036854775807
def Post (w : World) (e : Ending) (w' : World) : Prop := e = .returned (.bool true) ∧ Below w.heap.size w w'
theorem RNewPost.one {w : World} {os : List Ovr} {e : Ending} {w' : World} (h : RNewPost w os e w') : Kp w w' ∧ ∃ rv : Option Addr, e = .returned (.tuple #[.pointer rv, .int .i64 (scanN os os.length : Nat)]) ∧ ((scanN os os.length ≠ 0 ∧ rv = none) ∨ (scanN os os.length = 0 ∧ ∃ q, rv = some ⟨q, 0, none⟩ ∧ RefAt w' q os)) := by
  obtain ⟨k, ⟨h1, rfl⟩ | ⟨h1, q, rfl, h2⟩⟩ := h
  · exact ⟨k, none, rfl, Or.inl ⟨h1, rfl⟩⟩
  · exact ⟨k, some ⟨q, 0, none⟩, by rw [h1]; rfl, Or.inr ⟨h1, q, rfl, h2⟩⟩
/-- The program's oracle beside the reference's: both none, or both over the same list. -/
def Two (w : World) (os : List Ovr) (pv rv : Option Addr) : Prop :=
  (pv = none ∧ rv = none) ∨ ∃ p m q, pv = some ⟨p, 0, none⟩ ∧ rv = some ⟨q, 0, none⟩ ∧ OrcAt w p m os.length (mapN os os.length) ∧ RefAt w q os ∧ scanN os os.length = 0
theorem Two.kp {w w1 : World} {os : List Ovr} {pv rv : Option Addr} (h : Two w os pv rv) (k : Kp w w1) : Two w1 os pv rv := by
  rcases h with h | ⟨p, m, q, h1, h2, h3, h4, h5⟩
  · exact Or.inl h
  · exact Or.inr ⟨p, m, q, h1, h2, h3.kp k, h4.kp k, h5⟩
theorem two_of {w w1 w2 : World} {os : List Ovr} {pv rv : Option Addr} (k : Kp w1 w2) (h1 : (scanN os os.length ≠ 0 ∧ pv = none) ∨ (scanN os os.length = 0 ∧ ∃ p m, pv = some ⟨p, 0, none⟩ ∧ OrcAt w1 p m os.length (mapN os os.length)))
    (h2 : (scanN os os.length ≠ 0 ∧ rv = none) ∨ (scanN os os.length = 0 ∧ ∃ q, rv = some ⟨q, 0, none⟩ ∧ RefAt w2 q os)) : Two w2 os pv rv := by
  rcases h1 with ⟨e1, rfl⟩ | ⟨e1, p, m, rfl, o1⟩
  · rcases h2 with ⟨_, rfl⟩ | ⟨e2, _⟩
    · exact Or.inl ⟨rfl, rfl⟩
    · exact absurd e2 e1
  · rcases h2 with ⟨e2, _⟩ | ⟨_, q, rfl, r1⟩
    · exact absurd e1 e2
    · exact Or.inr ⟨p, m, q, rfl, rfl, o1.kp k, r1, e1⟩

/-- The reference's Mix, as it is proved elsewhere. -/
def RMixOK : Prop := ∀ (seed : Nat) (key : ByteArray) (w : World), seed < 18446744073709551616 → key.size < 9223372036854775807 →
  Calls Tryd.prog 10 #[.int .u64 (seed : Int), .string key] w fun e w' => e = .returned (.int .u64 (mixN seed key.data.toList : Nat)) ∧ Kp w w'
def HashIs (os : List Ovr) (s : Int) (key : ByteArray) (r : Int) : Prop := ∃ S : Nat, s = (S : Int) ∧ S < 18446744073709551616 ∧ key.size < 9223372036854775807 ∧ r = ((hashN (mapN os os.length) S key.data.toList : Nat) : Int)
theorem hash_is {W : World} {p m : Nat} {os : List Ovr} (hO : OrcAt W p m os.length (mapN os os.length)) (ho : OddAt W) {s r : Int} {key : ByteArray} (q : HashIs os s key r) {w : World} (k : Kp W w) :
    Calls Tryd.prog 6 #[.pointer (some ⟨p, 0, none⟩), .int .u64 s, .string key] w fun e w' => e = .returned (.int .u64 r) ∧ Kp w w' := by
  obtain ⟨S, rfl, h1, h2, rfl⟩ := q
  exact hash_any S key w (hO.kp k) h1 (by omega) (ho.kp k) _ rfl
theorem rhash_is {W : World} {p : Nat} {os : List Ovr} (hR : RefAt W p os) (RM : Hid RMixOK) (hs : Hid (scanN os os.length = 0)) {s r : Int} {key : ByteArray} (q : HashIs os s key r) {w : World} (k : Kp W w) :
    Calls Tryd.prog 7 #[.pointer (some ⟨p, 0, none⟩), .int .u64 s, .string key] w fun e w' => e = .returned (.int .u64 r) ∧ Kp w w' := by
  obtain ⟨S, rfl, h1, h2, rfl⟩ := q
  exact rhash_walk S key (mixN S key.data.toList) w (hR.kp k) (fun W' _ => RM.out S key W' h1 h2) _ (by rw [firstN_map os _ _ hs.out]; rfl)
section
variable {w W W1 : World} {b : Nat} {v0 v1 v2 : Value}
abbrev S3 (w : World) (b : Nat) (v0 v1 v2 : Value) (W : World) : Prop := W.cell? ⟨b, 0, none⟩ = some v0 ∧ W.cell? ⟨b, 1, none⟩ = some v1 ∧ W.cell? ⟨b, 2, none⟩ = some v2 ∧ Kp w W
theorem s3_call (k : Kp W W1) (h : S3 w b v0 v1 v2 W) : S3 w b v0 v1 v2 W1 := ⟨k.cell h.1, k.cell h.2.1, k.cell h.2.2.1, h.2.2.2.trans k⟩
theorem s3_drew (h : S3 w b v0 v1 v2 W) : S3 w b v0 v1 v2 W.drew := ⟨h.1, h.2.1, h.2.2.1, h.2.2.2.drew⟩
theorem s3_k (h : S3 w b v0 v1 v2 W) : Kp w W := h.2.2.2
end

set_option maxRecDepth 100000 in
set_option maxHeartbeats 4000000 in
theorem core (a1 a2 a3 : Option Addr) (c1 c2 c3 : Nat) (os1 os2 : List Ovr) (qs : List AskD) (w : World) (h1 : RowO w (.slice a1 os1.length c1) os1) (h2 : RowO w (.slice a2 os2.length c2) os2) (h3 : RowA w a3 qs.length qs)
    (hn1 : os1.length * 24 + 24 ≤ 140737488355328) (hn2 : os2.length * 24 + 24 ≤ 140737488355328) (hn3 : (qs.length : Int) ≤ 9223372036854775807) (ho : OddAt w) (RM : Hid RMixOK) :
    Calls Tryd.prog 3 #[.slice a1 os1.length c1, .slice a2 os2.length c2, .slice a3 qs.length c3] w (Post w) := by
  go_enter Tryd.func3, Tryd.ntmps3
  go_wp2_with fail
  refine (handed_any a1 c1 os1 w h1 hn1).mono ?_
  rintro e w1 ⟨k1, pv, rfl, hp⟩
  go_wp2_with fail
  refine (rnew_any a1 c1 os1 w1 (h1.kp k1)).mono ?_
  intro e w2 np
  obtain ⟨k2, rv, rfl, hr⟩ := RNewPost.one np
  have T1 := two_of (w := w) k2 hp hr
  clear hp hr np
  have k12 := k1.trans k2
  go_wp2_with fail
  refine (handed_any a2 c2 os2 w2 (h2.kp k12) hn2).mono ?_
  rintro e w3 ⟨k3, qv, rfl, hp⟩
  have k13 := k12.trans k3
  go_wp2_with fail
  refine (rnew_any a2 c2 os2 w3 (h2.kp k13)).mono ?_
  intro e w4 np
  obtain ⟨k4, sv, rfl, hr⟩ := RNewPost.one np
  have T2 := two_of (w := w) k4 hp hr
  have k14 := k13.trans k4
  have T1' := (T1.kp k3).kp k4
  clear hp hr np T1 k12 k13 k1 k2 k3 k4 h1 h2
  have e7 : ∀ x : Int, (x != x) = false := fun x => by simp
  have n1 : (!(pv.isNone == rv.isNone)) = false := by rcases T1' with ⟨rfl, rfl⟩ | ⟨p, m, q, rfl, rfl, _⟩ <;> rfl
  have n2 : (!(qv.isNone == sv.isNone)) = false := by rcases T2 with ⟨rfl, rfl⟩ | ⟨p, m, q, rfl, rfl, _⟩ <;> rfl
  have H1 := hide T1'
  have H2 := hide T2
  have H3 := hide (show RowA w a3 qs.length qs from h3)
  have ho4 := hide (ho.kp k14)
  clear T1' T2 h3 ho
  generalize scanN os1 os1.length = E1 at *
  generalize scanN os2 os2.length = E2 at *
  go_wp2_with fail
  generalize pv.isNone = x1
  generalize rv.isNone = x2
  generalize qv.isNone = x3
  generalize sv.isNone = x4
  go_loopw [73] (fun vi wr => ∃ i : Nat, vi = .int .i64 (i : Int) ∧ i ≤ qs.length ∧ Kp w4 wr) (fun vi _ => qs.length - (intOf vi).toNat)
  case atStart => exact ⟨0, rfl, Nat.zero_le _, Kp.refl _⟩
  case round =>
    obtain ⟨i, rfl, hi, kr⟩ := hrel
    clear n1 n2
    by_cases hlt : i < qs.length
    · have hlt' : (i : Int) < (qs.length : Int) := by omega
      obtain ⟨b, o, rfl, q1, q2, q3, l1, l2⟩ := H3.out.2 i hlt
      have kk := k14.trans kr
      have q1' := kk.cell q1
      have q2' := kk.cell q2
      have q3' := kk.cell q3
      have L1 := hide l1
      have L2 := hide l2
      generalize qs[i].m = m at *
      generalize qs[i].s = S at *
      generalize qs[i].k = K at *
      clear q1 q2 q3 kk l1 l2
      by_cases hm0 : m = 0
      · subst hm0
        rcases H1.out with ⟨rfl, rfl⟩ | ⟨p, mm, q, rfl, rfl, h3, h4, h5⟩
        · clear H1 H2
          go_wp2_with fail
          have kW : Kp wr (wr.alloc (.cells #[.int .i64 0, .int .u64 (S : Int), .string K] 33)) := (Kp.refl wr).alloc _
          have f0 : (wr.alloc (.cells #[.int .i64 0, .int .u64 (S : Int), .string K] 33)).cell? ⟨wr.heap.size, 0, none⟩ = some (.int .i64 0) := cell_blk (heap_new _ _) rfl
          have f1 : (wr.alloc (.cells #[.int .i64 0, .int .u64 (S : Int), .string K] 33)).cell? ⟨wr.heap.size, 1, none⟩ = some (.int .u64 (S : Int)) := cell_blk (heap_new _ _) rfl
          have f2 : (wr.alloc (.cells #[.int .i64 0, .int .u64 (S : Int), .string K] 33)).cell? ⟨wr.heap.size, 2, none⟩ = some (.string K) := cell_blk (heap_new _ _) rfl
          have kx := kr.trans kW
          clear kW q1' q2' q3' kr
          generalize (wr.alloc (.cells #[.int .i64 0, .int .u64 (S : Int), .string K] 33)) = W at *
          generalize wr.heap.size = B at *
          go_quiet (fail)
          have f0' : (W.drewN nq).cell? ⟨B, 0, none⟩ = some (.int .i64 0) := f0
          have kx' : Kp w4 (W.drewN nq) := kx.drewN nq
          clear f0 f1 f2 kx
          generalize W.drewN nq = W2 at *
          go_wp2_with fail
          go_quiet (fail)
          have kz := kx'.drewN nq
          clear kx'
          go_wp2_with fail
          exact ⟨⟨i + 1, by simp, by omega, kz⟩, by simp [intOf]; omega⟩
        · clear H1 H2
          go_wp2_with fail
          have kW : Kp wr (wr.alloc (.cells #[.int .i64 0, .int .u64 (S : Int), .string K] 33)) := (Kp.refl wr).alloc _
          have f0 : (wr.alloc (.cells #[.int .i64 0, .int .u64 (S : Int), .string K] 33)).cell? ⟨wr.heap.size, 0, none⟩ = some (.int .i64 0) := cell_blk (heap_new _ _) rfl
          have f1 : (wr.alloc (.cells #[.int .i64 0, .int .u64 (S : Int), .string K] 33)).cell? ⟨wr.heap.size, 1, none⟩ = some (.int .u64 (S : Int)) := cell_blk (heap_new _ _) rfl
          have f2 : (wr.alloc (.cells #[.int .i64 0, .int .u64 (S : Int), .string K] 33)).cell? ⟨wr.heap.size, 2, none⟩ = some (.string K) := cell_blk (heap_new _ _) rfl
          have kx := kr.trans kW
          clear kW q1' q2' q3' kr
          generalize (wr.alloc (.cells #[.int .i64 0, .int .u64 (S : Int), .string K] 33)) = W at *
          generalize wr.heap.size = B at *
          have hO := h3.kp kx
          have hR := h4.kp kx
          have oW := ho4.out.kp kx
          have hs0 := hide h5
          have i1 : HashIs os1 (S : Int) K ((hashN (mapN os1 os1.length) S K.data.toList : Nat) : Int) := ⟨S, rfl, L1.out, L2.out, rfl⟩
          generalize hX : hashN (mapN os1 os1.length) S K.data.toList = X at *
          have e5 : ((X : Int) != (X : Int)) = false := by simp
          have hS1 := And.intro f0 (And.intro f1 (And.intro f2 (Kp.refl W)))
          clear h3 h4 h5 hX
          go_region_held3 (fun w' => w'.cell? ⟨B, 0, none⟩ = some (.int .i64 0) ∧ w'.cell? ⟨B, 1, none⟩ = some (.int .u64 (S : Int)) ∧ w'.cell? ⟨B, 2, none⟩ = some (.string K) ∧ Kp W w')
            (first | with_reducible assumption | with_reducible exact s3_drew (by assumption) | with_reducible exact s3_call k5 (by assumption) | with_reducible exact s3_call k5 (s3_drew (by assumption)))
            (first | (go_at_call 6; refine (hash_is hO oW i1 (s3_k (b := B) (v0 := .int .i64 0) (v1 := .int .u64 (S : Int)) (v2 := .string K) (by first | with_reducible assumption | with_reducible exact s3_drew (by assumption)))).mono ?_; rintro r w5 ⟨rfl, k5⟩) | (go_at_call 7; refine (rhash_is hR RM hs0 i1 (s3_k (b := B) (v0 := .int .i64 0) (v1 := .int .u64 (S : Int)) (v2 := .string K) (by first | with_reducible assumption | with_reducible exact s3_drew (by assumption)))).mono ?_; rintro r w5 ⟨rfl, k5⟩))
          rename_i hHeld
          obtain ⟨d0, d1, d2, kz⟩ := hHeld
          have kz2 := kx.trans kz
          clear f0 f1 f2 hS1 hO hR oW i1 kz kx
          go_wp2_with fail
          go_quiet (fail)
          have kz := kz2.drewN nq
          clear kz2
          go_wp2_with fail
          exact ⟨⟨i + 1, by simp, by omega, kz⟩, by simp [intOf]; omega⟩
      · have hm0' : (m == 0) = false := by rw [beq_eq_false_iff_ne]; exact hm0
        by_cases hm1 : m = 1
        · subst hm1
          rcases H2.out with ⟨rfl, rfl⟩ | ⟨p, mm, q, rfl, rfl, h3, h4, h5⟩
          · clear H1 H2
            go_wp2_with fail
            have kW : Kp wr (wr.alloc (.cells #[.int .i64 1, .int .u64 (S : Int), .string K] 33)) := (Kp.refl wr).alloc _
            have f0 : (wr.alloc (.cells #[.int .i64 1, .int .u64 (S : Int), .string K] 33)).cell? ⟨wr.heap.size, 0, none⟩ = some (.int .i64 1) := cell_blk (heap_new _ _) rfl
            have f1 : (wr.alloc (.cells #[.int .i64 1, .int .u64 (S : Int), .string K] 33)).cell? ⟨wr.heap.size, 1, none⟩ = some (.int .u64 (S : Int)) := cell_blk (heap_new _ _) rfl
            have f2 : (wr.alloc (.cells #[.int .i64 1, .int .u64 (S : Int), .string K] 33)).cell? ⟨wr.heap.size, 2, none⟩ = some (.string K) := cell_blk (heap_new _ _) rfl
            have kx := kr.trans kW
            clear kW q1' q2' q3' kr
            generalize (wr.alloc (.cells #[.int .i64 1, .int .u64 (S : Int), .string K] 33)) = W at *
            generalize wr.heap.size = B at *
            go_quiet (fail)
            have f0' : (W.drewN nq).cell? ⟨B, 0, none⟩ = some (.int .i64 1) := f0
            have kx' : Kp w4 (W.drewN nq) := kx.drewN nq
            clear f0 f1 f2 kx
            generalize W.drewN nq = W2 at *
            go_wp2_with fail
            go_quiet (fail)
            have kz := kx'.drewN nq
            clear kx'
            go_wp2_with fail
            exact ⟨⟨i + 1, by simp, by omega, kz⟩, by simp [intOf]; omega⟩
          · clear H1 H2
            go_wp2_with fail
            have kW : Kp wr (wr.alloc (.cells #[.int .i64 1, .int .u64 (S : Int), .string K] 33)) := (Kp.refl wr).alloc _
            have f0 : (wr.alloc (.cells #[.int .i64 1, .int .u64 (S : Int), .string K] 33)).cell? ⟨wr.heap.size, 0, none⟩ = some (.int .i64 1) := cell_blk (heap_new _ _) rfl
            have f1 : (wr.alloc (.cells #[.int .i64 1, .int .u64 (S : Int), .string K] 33)).cell? ⟨wr.heap.size, 1, none⟩ = some (.int .u64 (S : Int)) := cell_blk (heap_new _ _) rfl
            have f2 : (wr.alloc (.cells #[.int .i64 1, .int .u64 (S : Int), .string K] 33)).cell? ⟨wr.heap.size, 2, none⟩ = some (.string K) := cell_blk (heap_new _ _) rfl
            have kx := kr.trans kW
            clear kW q1' q2' q3' kr
            generalize (wr.alloc (.cells #[.int .i64 1, .int .u64 (S : Int), .string K] 33)) = W at *
            generalize wr.heap.size = B at *
            go_quiet (fail)
            have f0' : (W.drewN nq).cell? ⟨B, 0, none⟩ = some (.int .i64 1) := f0
            have f1' : (W.drewN nq).cell? ⟨B, 1, none⟩ = some (.int .u64 (S : Int)) := f1
            have f2' : (W.drewN nq).cell? ⟨B, 2, none⟩ = some (.string K) := f2
            have kx' : Kp w4 (W.drewN nq) := kx.drewN nq
            clear f0 f1 f2 kx
            generalize W.drewN nq = W2 at *
            have kx := kx'
            have f0 := f0'
            have f1 := f1'
            have f2 := f2'
            clear kx' f0' f1' f2'
            go_wp2_with fail
            have hO := h3.kp kx
            have hR := h4.kp kx
            have oW := ho4.out.kp kx
            have hs0 := hide h5
            have i1 : HashIs os2 (S : Int) K ((hashN (mapN os2 os2.length) S K.data.toList : Nat) : Int) := ⟨S, rfl, L1.out, L2.out, rfl⟩
            generalize hX : hashN (mapN os2 os2.length) S K.data.toList = X at *
            have e5 : ((X : Int) != (X : Int)) = false := by simp
            have hS1 := And.intro f0 (And.intro f1 (And.intro f2 (Kp.refl W2)))
            clear h3 h4 h5 hX
            go_region_held3 (fun w' => w'.cell? ⟨B, 0, none⟩ = some (.int .i64 1) ∧ w'.cell? ⟨B, 1, none⟩ = some (.int .u64 (S : Int)) ∧ w'.cell? ⟨B, 2, none⟩ = some (.string K) ∧ Kp W2 w')
              (first | with_reducible assumption | with_reducible exact s3_drew (by assumption) | with_reducible exact s3_call k5 (by assumption) | with_reducible exact s3_call k5 (s3_drew (by assumption)))
              (first | (go_at_call 6; refine (hash_is hO oW i1 (s3_k (b := B) (v0 := .int .i64 1) (v1 := .int .u64 (S : Int)) (v2 := .string K) (by first | with_reducible assumption | with_reducible exact s3_drew (by assumption)))).mono ?_; rintro r w5 ⟨rfl, k5⟩) | (go_at_call 7; refine (rhash_is hR RM hs0 i1 (s3_k (b := B) (v0 := .int .i64 1) (v1 := .int .u64 (S : Int)) (v2 := .string K) (by first | with_reducible assumption | with_reducible exact s3_drew (by assumption)))).mono ?_; rintro r w5 ⟨rfl, k5⟩))
            rename_i hHeld
            obtain ⟨d0, d1, d2, kz⟩ := hHeld
            have kz2 := kx.trans kz
            clear f0 f1 f2 hS1 hO hR oW i1 kz kx
            go_wp2_with fail
            exact ⟨⟨i + 1, by simp, by omega, kz2⟩, by simp [intOf]; omega⟩
        · have hm1' : (m == 1) = false := by rw [beq_eq_false_iff_ne]; exact hm1
          clear hm0 hm1 H1 H2
          go_wp2_with fail
          have kW : Kp wr (wr.alloc (.cells #[.int .i64 m, .int .u64 (S : Int), .string K] 33)) := (Kp.refl wr).alloc _
          have f0 : (wr.alloc (.cells #[.int .i64 m, .int .u64 (S : Int), .string K] 33)).cell? ⟨wr.heap.size, 0, none⟩ = some (.int .i64 m) := cell_blk (heap_new _ _) rfl
          have f1 : (wr.alloc (.cells #[.int .i64 m, .int .u64 (S : Int), .string K] 33)).cell? ⟨wr.heap.size, 1, none⟩ = some (.int .u64 (S : Int)) := cell_blk (heap_new _ _) rfl
          have f2 : (wr.alloc (.cells #[.int .i64 m, .int .u64 (S : Int), .string K] 33)).cell? ⟨wr.heap.size, 2, none⟩ = some (.string K) := cell_blk (heap_new _ _) rfl
          have kx := kr.trans kW
          clear kW q1' q2' q3' kr
          generalize (wr.alloc (.cells #[.int .i64 m, .int .u64 (S : Int), .string K] 33)) = W at *
          generalize wr.heap.size = B at *
          go_quiet (fail)
          have f0' : (W.drewN nq).cell? ⟨B, 0, none⟩ = some (.int .i64 m) := f0
          have kx' : Kp w4 (W.drewN nq) := kx.drewN nq
          clear f0 f1 f2 kx
          generalize W.drewN nq = W2 at *
          go_wp2_with fail
          go_quiet (fail)
          have kz := kx'.drewN nq
          clear kx'
          go_wp2_with fail
          exact ⟨⟨i + 1, by simp, by omega, kz⟩, by simp [intOf]; omega⟩
    · have hlt' : ¬ (i : Int) < (qs.length : Int) := by omega
      go_wp2_with fail
      go_ret
      exact ⟨rfl, k14.trans kr⟩
end oracleHashes
end Go.Proofs.YtflihieaajbihabDoor
