import Derived.Test.YtflihieaajbihaaDoorOV4
namespace Go.Proofs.YtflihieaajbihaaDoor
open Go.RowKit
namespace oracleOvers
set_option linter.unusedVariables false

def Post (w : World) (e : Ending) (w' : World) : Prop := e = .returned (.bool true) ∧ Below w.heap.size w w'
theorem append_run1 {P : Program} (w : World) {ops : Array Oper} {rest : List Oper} {o : Oper} {a : Act} {Q : Exit → Act → World → Prop}
    (hgd : o.guard = none) (s x : Operand) (t : TypeId) (hop : o.op = Op.call { callee := Callee.builtin Builtin.append, args := #[s, x], argTypes := #[t, t] }) {v u v' : Value} {w' : World} (hs : a.eval s = v) (hx : a.eval x = u)
    (hrun : (Builtin.append_ #[t, t] o.type #[v, u]).run P w = .ok v' w') (hK : wpList P ops Q rest (a.put o.dst v') w') : wpList P ops Q (o :: rest) a w := by
  refine wpList_plain hgd fun K hK' => ?_
  unfold Oper.wp
  simp [execOp, hop, resolve, invoke, builtin, hs, hx, hrun, Result.andThen]
  exact hK' _ _ hK

/-- Hash by its answer, in any world behind W. -/
def HashIs (f : List UInt8 → Option Nat) (s : Int) (key : ByteArray) (r : Int) : Prop := ∃ S : Nat, s = (S : Int) ∧ S < 18446744073709551616 ∧ key.size < 9223372036854775808 ∧ r = ((hashN f S key.data.toList : Nat) : Int)
theorem hash_is {W : World} {p m n : Nat} {f : List UInt8 → Option Nat} (hO : OrcAt W p m n f) (ho : OddAt W) {s r : Int} {key : ByteArray} (q : HashIs f s key r) {w : World} (k : Kp W w) :
    Calls Tryd.prog 10 #[.pointer (some ⟨p, 0, none⟩), .int .u64 s, .string key] w fun e w' => e = .returned (.int .u64 r) ∧ Kp w w' := by
  obtain ⟨S, rfl, h1, h2, rfl⟩ := q
  exact hash_any S key w (hO.kp k) h1 h2 (ho.kp k) _ rfl
section
variable {w W W1 : World} {b : Nat} {v0 v1 : Value}
abbrev S2 (w : World) (b : Nat) (v0 v1 : Value) (W : World) : Prop := W.cell? ⟨b, 0, none⟩ = some v0 ∧ W.cell? ⟨b, 1, none⟩ = some v1 ∧ Kp w W
theorem s2_call (k : Kp W W1) (h : S2 w b v0 v1 W) : S2 w b v0 v1 W1 := ⟨k.cell h.1, k.cell h.2.1, h.2.2.trans k⟩
theorem s2_drew (h : S2 w b v0 v1 W) : S2 w b v0 v1 W.drew := ⟨h.1, h.2.1, h.2.2.drew⟩
theorem s2_k (h : S2 w b v0 v1 W) : Kp w W := h.2.2
end
theorem key_eq (K key : ByteArray) : (K.toList == key.toList) = decide (K.data.toList = key.data.toList) := by
  rw [toList_data, toList_data]
  by_cases e : K.data.toList = key.data.toList
  · rw [decide_eq_true e, e, beq_self_eq_true]
  · rw [decide_eq_false e, beq_eq_false_iff_ne.2 e]
theorem NewPost.one {w : World} {os : List Ovr} {e : Ending} {w' : World} (h : NewPost w os e w') : Kp w w' ∧ ∃ pv : Option Addr, e = .returned (.tuple #[.pointer pv, .int .i64 (scanN os os.length : Nat)]) ∧ ((scanN os os.length ≠ 0 ∧ pv = none) ∨ (scanN os os.length = 0 ∧ ∃ p m, pv = some ⟨p, 0, none⟩ ∧ OrcAt w' p m os.length (mapN os os.length))) := by
  obtain ⟨k, ⟨h1, rfl⟩ | ⟨h1, p, m, rfl, h2⟩⟩ := h
  · exact ⟨k, none, rfl, Or.inl ⟨h1, rfl⟩⟩
  · exact ⟨k, some ⟨p, 0, none⟩, by rw [h1]; rfl, Or.inr ⟨h1, p, m, rfl, h2⟩⟩

set_option maxRecDepth 100000 in
set_option maxHeartbeats 4000000 in
theorem core (a : Option Addr) (cp : Nat) (os : List Ovr) (seed : Nat) (key : ByteArray) (w : World) (h : RowO w (.slice a os.length cp) os) (hn : os.length * 24 ≤ 140737488355328) (hs : seed < 18446744073709551616) (hl : key.size < 9223372036854775807) (ho : OddAt w) :
    Calls Tryd.prog 5 #[.slice a os.length cp, .int .u64 (seed : Int), .string key] w (Post w) := by
  obtain ⟨a2, cp2, w2, r1, h2, k2⟩ := append_overs w h hn
  have hm9 := RowO.max h
  go_enter Tryd.func5, Tryd.ntmps5
  go_wp2_with (first | (at_builtin; have _t := r1; refine append_run1 _ rfl (.tmp 15) (.tmp 16) 27 rfl rfl rfl r1 ?_; clear r1))
  refine (new_any a2 cp2 os w2 h2).mono ?_
  intro e w3 np
  obtain ⟨k3, pv, rfl, hpv⟩ := NewPost.one np
  clear np h2
  have k4 := k2.trans k3
  clear k2 k3
  by_cases hm : 64 < os.length
  · have hm' : (64 : Int) < (os.length : Int) := by omega
    have h0 : scanN os 0 = 40 := by rw [scanN, if_pos hm]
    have hE : scanN os os.length = 40 := by rw [scanN_stays (i := 0) (by rw [h0]; decide) (Nat.zero_le _), h0]
    rw [hE] at hpv ⊢
    obtain ⟨_, rfl⟩ | ⟨h9, _⟩ := hpv
    · clear hE h0 h
      go_wp2_with fail
      go_loopw [9, 10] (fun vw vi wr => vw = .int .i64 40 ∧ vi = .int .i64 0 ∧ w3 = wr) (fun _ _ _ => 0)
      case atStart => exact ⟨rfl, rfl, rfl⟩
      case round =>
        obtain ⟨rfl, rfl, rfl⟩ := hrel
        have hp' : (0 : Int) < (os.length : Int) := by omega
        go_wp2_with fail
        go_ret
        exact ⟨rfl, k4⟩
    · omega
  · have hm' : ¬ (64 : Int) < (os.length : Int) := by omega
    have h0 : scanN os 0 = 0 := by rw [scanN, if_neg hm]
    generalize hE : scanN os os.length = E at *
    have HE := hide hE
    clear hE
    go_wp2_with fail
    go_loopw [9, 10] (fun vw vi wr => ∃ i : Nat, vw = .int .i64 (scanN os i : Nat) ∧ vi = .int .i64 (i : Int) ∧ i ≤ os.length ∧ (∀ l, l < i → scanN os l = 0) ∧ Kp w3 wr) (fun _ vi _ => os.length - (intOf vi).toNat)
    case atStart => exact ⟨0, by rw [h0]; rfl, rfl, Nat.zero_le _, fun l hl => by omega, Kp.refl _⟩
    case round =>
      obtain ⟨i, rfl, rfl, hi, hall, kr⟩ := hrel
      have HA := hide hall
      clear hall
      by_cases hz : scanN os i = 0
      · rw [hz]
        by_cases hlt : i < os.length
        · have hlt' : (i : Int) < (os.length : Int) := by omega
          have hF := fault_any a cp os i wr (h.kp (k4.trans kr)) hlt
          have HN : Hid (scanN os (i + 1) = badN os i) := by show _ = _; rw [scanN, if_pos hz]
          have HZ := hide hz
          generalize badN os i = R at *
          clear h hpv hz
          go_wp2_with fail
          refine hF.mono ?_
          rintro e w5 ⟨rfl, k5⟩
          go_wp2_with fail
          refine ⟨⟨i + 1, by rw [HN.out], by simp, by omega, fun l hl => ?_, kr.trans k5⟩, by simp [intOf]; omega⟩
          by_cases e : l = i
          · rw [e]
            exact HZ.out
          · exact HA.out l (by omega)
        · have hlt' : ¬ (i : Int) < (os.length : Int) := by omega
          obtain rfl : i = os.length := by omega
          obtain rfl : E = 0 := HE.out.symm.trans hz
          obtain ⟨h9, _⟩ | ⟨_, p, m, rfl, hO⟩ := hpv
          · exact absurd rfl h9
          have hO2 := hO.kp kr
          have ho2 := ho.kp (k4.trans kr)
          have k6 := k4.trans kr
          have h6 := h.kp k6
          have HZ := hide hz
          clear hz hO kr HA HE h
          obtain ⟨w7, e7⟩ : ∃ w7, w7 = wr := ⟨wr, rfl⟩
          subst e7
          go_wp2_with fail
          go_loopw [11, 54] (fun vm vj wq => ∃ (j : Nat) (mx : Bool), vm = .bool mx ∧ vj = .int .i64 (j : Int) ∧ j ≤ os.length ∧ (mx = true → ∀ l (hl : l < os.length), l < j → os[l].k ≠ key.data.toList) ∧ Kp w7 wq) (fun _ vj _ => os.length - (intOf vj).toNat)
          case atStart => exact ⟨0, true, rfl, rfl, Nat.zero_le _, fun _ l _ hl => by omega, Kp.refl _⟩
          case round =>
            obtain ⟨j, mx, rfl, rfl, hj, hmx, kq⟩ := hrel
            have HX := hide hmx
            clear hmx
            by_cases hlt : j < os.length
            · have hlt' : (j : Int) < (os.length : Int) := by omega
              obtain ⟨b, o, rfl, hc⟩ := RowO.some h6 (by omega)
              obtain ⟨q1, q2, q3⟩ := hc j hlt
              have q1' : wr.cell? ⟨b, o + j * 2, none⟩ = some (.string os[j].1) := by rw [Nat.mul_comm j 2]; exact kq.cell q1
              have q2' : wr.cell? ⟨b, o + j * 2 + 1, none⟩ = some (.int .u64 (os[j].2 : Nat)) := by rw [Nat.mul_comm j 2, Nat.add_assoc]; exact kq.cell q2
              have hmap : mapN os os.length os[j].k = some os[j].2 := mapN_holds (Nat.le_refl _) HZ.out j hlt hlt
              have hsz : os[j].1.size < 9223372036854775808 := by unfold maxLen at q3; omega
              have hh1 : hashN (mapN os os.length) seed os[j].1.data.toList = os[j].2 := hashN_some hmap
              have hh2 : hashN (mapN os os.length) (18446744073709551615 ^^^ seed) os[j].1.data.toList = os[j].2 := hashN_some hmap
              have i1 : HashIs (mapN os os.length) (seed : Int) os[j].1 ((os[j].2 : Nat) : Int) := ⟨seed, rfl, hs, hsz, by rw [hh1]⟩
              have x9 : bits BinOp.xor IntKind.u64 18446744073709551615 (seed : Int) = ((18446744073709551615 ^^^ seed : Nat) : Int) := bits_xor_u64_nat 18446744073709551615 seed (by decide) hs
              have hmx : (if IntKind.u64.signed = true then (-1 : Int) else IntKind.u64.max) = 18446744073709551615 := rfl
              have i2 : HashIs (mapN os os.length) (bits BinOp.xor IntKind.u64 (if IntKind.u64.signed = true then -1 else IntKind.u64.max) (seed : Int)) os[j].1 ((os[j].2 : Nat) : Int) := ⟨_, by rw [hmx]; exact x9, xorN_lt (by decide) hs, hsz, by rw [hh2]⟩
              clear x9 hmx
              have hO3 := hO2.kp kq
              have ho3 := ho2.kp kq
              have HKK : Hid (os[j].k = os[j].1.data.toList) := rfl
              clear hh1 hh2
              generalize hK : os[j].1 = K at *
              generalize os[j].2 = X at *
              clear hc q1 q2 q3 hmap hsz h6
              go_wp2_with fail
              have kW : Kp wr (wr.alloc (.cells #[.string K, .int .u64 (X : Int)] 34)) := (Kp.refl wr).alloc _
              have c0 : (wr.alloc (.cells #[.string K, .int .u64 (X : Int)] 34)).cell? ⟨wr.heap.size, 0, none⟩ = some (.string K) := cell_blk (heap_new _ _) rfl
              have c1 : (wr.alloc (.cells #[.string K, .int .u64 (X : Int)] 34)).cell? ⟨wr.heap.size, 1, none⟩ = some (.int .u64 (X : Int)) := cell_blk (heap_new _ _) rfl
              have hO4 := hO3.kp kW
              have ho4 := ho3.kp kW
              have kq4 := kq.trans kW
              clear hO3 ho3 kW q1' q2' kq
              generalize (wr.alloc (.cells #[.string K, .int .u64 (X : Int)] 34)) = W at *
              generalize wr.heap.size = B at *
              have e5 : ((X : Int) != (X : Int)) = false := by simp
              have hS1 := And.intro c0 (And.intro c1 (Kp.refl W))
              go_region_held3 (fun w' => w'.cell? ⟨B, 0, none⟩ = some (.string K) ∧ w'.cell? ⟨B, 1, none⟩ = some (.int .u64 (X : Int)) ∧ Kp W w')
                (first | with_reducible assumption | with_reducible exact s2_drew (by assumption) | with_reducible exact s2_call k5 (by assumption) | with_reducible exact s2_call k5 (s2_drew (by assumption)))
                (first | (go_at_call 10; refine (hash_is hO4 ho4 (by assumption) (s2_k (b := B) (v0 := .string K) (v1 := .int .u64 (X : Int)) (by first | with_reducible assumption | with_reducible exact s2_drew (by assumption)))).mono ?_; rintro r w5 ⟨rfl, k5⟩))
              rename_i hHeld
              obtain ⟨d0, d1, kz⟩ := hHeld
              have kz2 := kq4.trans kz
              clear c0 c1 hS1 hO4 ho4 i1 i2
              by_cases he : K.data.toList = key.data.toList
              · have e6 : (K.toList == key.toList) = true := by rw [key_eq, decide_eq_true he]
                clear he
                go_wp2_with fail
                exact ⟨⟨j + 1, false, rfl, by simp, by omega, (fun hf => absurd hf (by decide)), kz2⟩, by simp [intOf]; omega⟩
              · have e6 : (K.toList == key.toList) = false := by rw [key_eq, decide_eq_false he]
                have HE6 := hide he
                clear he
                go_wp2_with fail
                refine ⟨⟨j + 1, mx, rfl, by simp, by omega, fun hm l hl hlj => ?_, kz2⟩, by simp [intOf]; omega⟩
                by_cases el : l = j
                · subst el
                  rw [HKK.out]
                  exact HE6.out
                · exact HX.out hm l hl (by omega)
            · have hlt' : ¬ (j : Int) < (os.length : Int) := by omega
              obtain rfl : j = os.length := by omega
              have kz := k6.trans kq
              cases mx with
              | false =>
                clear HX h6
                go_wp2_with fail
                go_ret
                exact ⟨rfl, kz⟩
              | true =>
                have hnone : mapN os os.length key.data.toList = none := mapN_none (fun l hl h' => HX.out rfl l hl h')
                have hH := hash_any seed key wr (hO2.kp kq) hs (by omega) (ho2.kp kq) _ rfl
                have hM := fun W (k : Kp wr W) => mix_any seed key W hs (by omega) ((ho2.kp kq).kp k)
                rw [hashN_none hnone] at hH
                clear HX h6 hnone
                generalize mixN seed key.data.toList = Y at *
                go_wp2_with fail
                refine hH.mono ?_
                rintro r w8 ⟨rfl, k8⟩
                go_wp2_with fail
                refine (hM _ k8).mono ?_
                rintro r w9 ⟨rfl, k9⟩
                go_wp2_with fail
                go_ret
                exact ⟨rfl, (kz.trans k8).trans k9⟩
      · have hE2 : E = scanN os i := by rw [← HE.out]; exact scanN_stays hz hi
        obtain ⟨_, rfl⟩ | ⟨h9, _⟩ := hpv
        · have hz' : ((scanN os i : Int) == 0) = false := by rw [beq_eq_false_iff_ne]; omega
          have hz2 : ((scanN os i : Int) != 0) = true := by rw [bne_iff_ne]; omega
          generalize scanN os i = T at *
          subst hE2
          clear h HE HA
          by_cases hlt : (i : Int) < (os.length : Int)
          · go_wp2_with fail
            go_ret
            exact ⟨rfl, k4.trans kr⟩
          · go_wp2_with fail
            go_ret
            exact ⟨rfl, k4.trans kr⟩
        · exact absurd h9 (by rw [hE2]; exact hz)
end oracleOvers
end Go.Proofs.YtflihieaajbihaaDoor
