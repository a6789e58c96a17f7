/-
  code: numbersOf, its walk.
-/
import Derived.Test.YtnicbillhlhmmaaDoorCW6
namespace Go.Proofs.YtnicbillhlhmmaaDoor
namespace Cw
open Go.RowKit
set_option linter.unusedVariables false
def NumsP (o : Option (List Int)) (e : Ending) (w' : World) : Prop :=
  match o with
  | some ns => ∃ r, e = .returned (.tuple #[r, .bool true]) ∧ I64V w' r ns ∧ ∀ n, n ∈ ns → Fit n
  | none => e = .returned (.tuple #[.slice none 0 0, .bool false])
set_option maxRecDepth 100000 in
set_option maxHeartbeats 2000000 in
theorem numbersOf_any (v : Value) (ws : List Bs) (w : World) (he : ErrW w) (hv : StrV w v ws) (hsz : ∀ s, s ∈ ws → s.length ≤ 8388608) (hl : ws.length ≤ 8388608) :
    Calls Tryd.prog 40 #[v] w fun e w' => NumsP (numsD ws) e w' ∧ Keeps w w' (fun _ => False) := by
  obtain ⟨p, c, hve, -⟩ := id hv
  have Hw := hide (And.intro he (And.intro hv (And.intro hsz hl)))
  obtain ⟨R, hR⟩ : ∃ R, numsD ws = R := ⟨_, rfl⟩
  rw [hR]
  have HR0 := hide hR
  have hwl : ws.length ≤ 8388608 := hl
  clear he hv hsz hl hR
  subst hve
  go_enter Tryd.func40, Tryd.ntmps40
  go_wp2_with fail
  go_loopw [4, 6, 7, 8, 11] (fun v4 v6 v7 v8 v11 wr => ∃ (i : Nat) (acc : List Int), v11 = .int .i64 (i : Int) ∧ i ≤ ws.length ∧ Hid (wr.ownsRow w.heap.size 2 1 v4 i (acc.map fun n => Value.int .i64 n) ∧ Keeps w wr (fun _ => False) ∧ R = (numsD (ws.drop i)).map (acc ++ ·) ∧ ∀ n, n ∈ acc → Fit n)) (fun _ _ _ _ v11 _ => ws.length - (intOf v11).toNat)
  case atStart =>
    refine ⟨0, [], rfl, Nat.zero_le _, ⟨rfl, Or.inl ⟨rfl, rfl⟩⟩, Keeps.refl _ _, ?_, fun n hn => by cases hn⟩
    rw [← HR0.out, List.drop_zero]
    cases numsD ws <;> rfl
  case round =>
    obtain ⟨i, acc, rfl, hi, HR⟩ := hrel
    have hi' : (i : Int) ≤ (ws.length : Int) := by omega
    by_cases hlt : i < ws.length
    · have hlt' : (i : Int) < (ws.length : Int) := by omega
      have hw1 : wrap64 ((i : Int) + 1) = (i : Int) + 1 := by unfold wrap64; omega
      have Hm : Hid (ws.length - (i + 1) < ws.length - i) := sub_down hlt
      have Hle : Hid (i + 1 ≤ ws.length) := hlt
      obtain ⟨he, hv, hsz, hl⟩ := Hw.out
      obtain ⟨r1, r2, r3, r4⟩ := HR.out
      obtain ⟨p', c', hve, hvc⟩ := hv.keeps r2
      injection hve with hp hn' hc'
      subst hp
      obtain ⟨g, o, rfl, d0⟩ := hvc i hlt
      obtain ⟨st1, st2⟩ := numsD_step (ws := ws) hlt (acc := acc) (HR0.out.trans r3)
      rw [HR0.out] at st1 st2
      have hsi := hsz _ (List.getElem_mem hlt)
      have hil : i ≤ 8388608 := Nat.le_trans hi hl
      have hP := Tryd.strings_HasPrefix (sB ws[i]) ⟨#[43]⟩ wr
      rw [sB_data, show (⟨#[43]⟩ : ByteArray).data.toList = [43] from rfl] at hP
      have Hst := hide (And.intro st1 (And.intro st2 (And.intro hsi (And.intro r2 (And.intro r4 (And.intro he hil))))))
      clear hvc hn' hc' he hv hsz hl r2 r3 r4 st1 st2 hsi hil
      generalize ws[i] = s at *
      cases hpr : Lib.hasPrefix s [43] with
      | true =>
        rw [hpr] at hP
        have hno : numD1 s = none := by unfold numD1; rw [hpr]; rfl
        have Hno := hide hno
        clear hpr hno r1
        go_wp2_with fail
        (with_reducible refine hP.mono ?_)
        rintro e w1 ⟨rfl, rfl⟩
        clear hP
        go_wp2_with fail
        refine bodyPost_ret (v := .tuple #[.slice none 0 0, .bool false]) (by simp [results, Tryd.results40, go_sem]) rfl ?_
        obtain ⟨st1, st2, hsi, r2, r4, he, hil⟩ := Hst.out
        rw [st1 Hno.out]
        exact ⟨rfl, r2⟩
      | false =>
        rw [hpr] at hP
        have hq := parse_any (sB s) (by rw [sB_size]; exact Hst.out.2.2.1) wr (Hst.out.2.2.2.2.2.1.keeps Hst.out.2.2.2.1)
        rw [sB_data] at hq
        have hne : ∀ v, Lib.parseIntB 64 s = .ok v → numD1 s = some v := fun v q => by unfold numD1; rw [hpr, q]; rfl
        have hno : (∀ v, Lib.parseIntB 64 s ≠ .ok v) → numD1 s = none := fun q => by
          unfold numD1
          rw [hpr]
          cases hz : Lib.parseIntB 64 s with
          | ok v => exact absurd hz (q v)
          | «syntax» => rfl
          | range => rfl
        have Hq := hide (And.intro hne (And.intro hno r1))
        clear hpr hne hno r1
        go_wp2_with fail
        (with_reducible refine hP.mono ?_)
        rintro e w1 ⟨rfl, rfl⟩
        clear hP
        go_wp2_with fail
        (with_reducible refine hq.mono ?_)
        rintro e w2 ⟨⟨n, rfl, b1, b2⟩ | ⟨n, te, pe, rfl, b1⟩, k2⟩
        · have K2 := hide k2
          obtain ⟨st1, st2, hsi, r2, r4, he, hil⟩ := Hst.out
          obtain ⟨hne, hno, r1⟩ := Hq.out
          obtain ⟨g2, c2, w3, hap, own3, k3⟩ := nums_more (ownsRow_keeps r1 k2 (fun _ _ e => e)) n hil (Nat.le_trans r2.size k2.size)
          have H3 : Hid (w3.ownsRow w.heap.size 2 1 (.slice (some ⟨g2, 0, none⟩) (i + 1) c2) (i + 1) ((acc ++ [n]).map fun n => Value.int .i64 n) ∧ Keeps w w3 (fun _ => False) ∧ R = (numsD (ws.drop (i + 1))).map ((acc ++ [n]) ++ ·) ∧ ∀ m, m ∈ acc ++ [n] → Fit m) := by
            refine ⟨own3, own_keeps_all (ownsRow_keeps r1 k2 (fun _ _ e => e)) (r2.trans k2 (fun _ _ e => e)) (Nat.le_refl _) k3, st2 n (hne n b2), fun m hm => ?_⟩
            rcases List.mem_append.1 hm with q | q
            · exact r4 m q
            · rw [List.mem_singleton.1 q]; exact b1
          clear hq b1 b2 k2 st1 st2 hsi r2 r4 he hil hne hno r1 own3 k3
          go_wp2_with (at_builtin; have _t := hap; refine app_run _ rfl (.tmp 24) (.tmp 26) 69 rfl rfl rfl hap ?_; clear hap)
          go_roundw
          case rel => exact ⟨i + 1, acc ++ [n], by go_num, Hle.out, H3⟩
          case measure => simp [intOf]; exact Hm.out
        · have K2 := hide (And.intro k2 b1)
          clear hq k2 b1
          go_wp2_with fail
          refine bodyPost_ret (v := .tuple #[.slice none 0 0, .bool false]) (by simp [results, Tryd.results40, go_sem]) rfl ?_
          obtain ⟨st1, st2, hsi, r2, r4, he, hil⟩ := Hst.out
          rw [st1 (Hq.out.2.1 K2.out.2)]
          exact ⟨rfl, r2.trans K2.out.1 (fun _ _ e => e)⟩
    · obtain rfl : i = ws.length := by omega
      have HF : Hid (NumsP R (.returned (.tuple #[u4, .bool true])) wr ∧ Keeps w wr (fun _ => False)) := by
        obtain ⟨r1, r2, r3, r4⟩ := HR.out
        rw [List.drop_of_length_le (Nat.le_refl _)] at r3
        rw [show R = some acc by rw [r3]; show some (acc ++ []) = _; rw [List.append_nil]]
        exact ⟨⟨u4, rfl, i64_own r1, r4⟩, r2⟩
      clear HR
      go_wp2_with fail
      refine bodyPost_ret (v := .tuple #[u4, .bool true]) (by simp [results, Tryd.results40, go_sem]) rfl ?_
      exact HF.out
end Cw
end Go.Proofs.YtnicbillhlhmmaaDoor
