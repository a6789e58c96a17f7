import Derived.Lib.ConvBytes
import Derived.Lib.AtoiAllMem
import Derived.Laws.Strings3
import Derived.Shelf.Strings.Builder1
import Derived.Shelf.Strings.Builder2
import Derived.Shelf.Strings.OnBuilder
import Derived.Shelf.Small.Utf8
import Derived.Shelf.Small.Strs
import Derived.Shelf.Strings.BuilderF
import Derived.Shelf.Strconv.Itoa0
import Derived.Shelf.Strconv.Itoa1
import Derived.Shelf.LaysM
import Derived.Shelf.Strconv.Itoa2
import Derived.Shelf.Strconv.Itoa3
import Derived.Shelf.Strconv.ParseIntEmpty
import Derived.Shelf.Strconv.Clone
import Derived.Shelf.Strconv.SyntaxError
import Derived.Shelf.LaysC
import Derived.Shelf.Strconv.ToError
import Derived.Shelf.Strconv.Lower
import Derived.Shelf.Strconv.ParseUint10
import Derived.Shelf.Strconv.ParseUint10Empty
import Derived.Shelf.Strconv.ParseUint10Any
import Derived.Shelf.Strconv.ParseInt10
import Derived.Shelf.Strconv.RangeError
import Derived.Shelf.Strconv.ToErrorRange
import Derived.Shelf.Strconv.ParseUintEmpty
import Derived.Shelf.Strconv.ParseUint10b64
import Derived.Shelf.Strconv.ParseUint10b32
import Derived.Shelf.Strconv.ParseUint10b16
import Derived.Shelf.Strconv.ParseUint10b8
import Derived.Shelf.Strconv.ParseUint10At
import Derived.Shelf.Strconv.ParseInt10At64
import Derived.Shelf.Strconv.ParseInt10At32
import Derived.Shelf.Strconv.ParseInt10At16
import Derived.Shelf.Strconv.ParseInt10At8
import Derived.Shelf.Strconv.ParseInt10All
import Derived.Shelf.Strconv.ParseIntPublic10
import Derived.Shelf.Strconv.ErrVarParseInt
import Derived.Ground.MpProg
import Derived.Shelf.Pu.ParseUintPublic10
import Derived.Shelf.Strings.Search1
import Derived.Shelf.Strings.Prefix
import Derived.Shelf.Strings.Runes
import Derived.Shelf.Strings.IndexAny
import Derived.Shelf.Strings.AsciiSet
import Derived.Shelf.Strings.IndexAnyAll
import Derived.Test.YtfpiibccggjjpaaDoorProg
import Derived.Test.YtfpiibccggjjpaaDoorUn4
/-
  script: what a field says, as data; a field that was told is read as what it told.
-/
namespace Go.Proofs.YtfpiibccggjjpaaDoor
open Go.RowKit
set_option linter.unusedVariables false

/-- A number: its value, and the error. -/
def numE (s : List UInt8) : Int × Int :=
  if allD 10 (Lib.trimPrefix s [45]) = true then (match Lib.parseIntB 64 s with
    | .ok v => (v, 0)
    | _ => (0, 161))
  else (0, 160)
theorem numE_num (n : Int) (hn : Fit n) : numE (numD n).data.toList = (n, 0) := by
  unfold numE numD
  rw [strOf_data, if_pos (all_itoa n), parse_itoa n hn]
def hexS (a : Nat) (x : UInt8) : Nat := a * 16 + (digD (x.toNat : Int)).toNat
def hexV (l : List UInt8) : Nat := l.foldl hexS 0
theorem hexV_take {l : List UInt8} {i : Nat} (h : i < l.length) : hexV (l.take (i + 1)) = hexV (l.take i) * 16 + (digD (l[i].toNat : Int)).toNat := by
  unfold hexV
  rw [List.take_succ_eq_append_getElem h, List.foldl_append]
  rfl
theorem hexS_le (l : List UInt8) : ∀ a, a ≤ l.foldl hexS a := by
  induction l with
  | nil => intro a; exact Nat.le_refl _
  | cons x t ih =>
    intro a
    have := ih (hexS a x)
    unfold hexS at this ⊢
    rw [List.foldl_cons]
    omega
theorem hexV_le (l : List UInt8) (i : Nat) : hexV (l.take i) ≤ hexV l := by
  conv => rhs; rw [← List.take_append_drop i l]
  unfold hexV
  rw [List.foldl_append]
  exact hexS_le _ _
/-- A word of 64 bits: its value, and the error. -/
def wrdE (s : List UInt8) : Nat × Int :=
  if s.take 2 = [48, 120] then
    (if allD 16 (s.drop 2) = true then (if hexV (s.drop 2) < 18446744073709551616 then (hexV (s.drop 2), 0) else (0, 161)) else (0, 160))
  else if allD 10 s = true then (match Lib.parseUintB 64 s with
    | .ok v => (v, 0)
    | _ => (0, 161))
  else (0, 160)
theorem digD_hex {v : Nat} (h : v < 16) : digD ((hexC v).toNat : Int) = (v : Int) := by
  have : ∀ n : Fin 16, digD ((hexC n.1).toNat : Int) = (n.1 : Int) := by decide +kernel
  exact this ⟨v, h⟩
theorem hexW_val : ∀ (k u : Nat), u ≤ k → hexV (hexW u) = u
  | 0, u, h => by
    rw [hexW_small (by omega)]
    show 0 * 16 + (digD ((hexC u).toNat : Int)).toNat = u
    rw [digD_hex (by omega)]
    omega
  | k + 1, u, h => by
    by_cases h16 : u < 16
    · rw [hexW_small h16]
      show 0 * 16 + (digD ((hexC u).toNat : Int)).toNat = u
      rw [digD_hex h16]
      omega
    · rw [hexW_big h16]
      have ih := hexW_val k (u / 16) (by omega)
      unfold hexV at ih ⊢
      rw [List.foldl_append, ih]
      show u / 16 * 16 + (digD ((hexC (u % 16)).toNat : Int)).toNat = u
      rw [digD_hex (Nat.mod_lt _ (by decide))]
      omega
theorem hexW_mem : ∀ (k u : Nat), u ≤ k → ∀ y, y ∈ hexW u → ∃ v, v < 16 ∧ y = hexC v
  | 0, u, h, y, hy => by
    rw [hexW_small (by omega)] at hy
    exact ⟨u, by omega, by simpa using hy⟩
  | k + 1, u, h, y, hy => by
    by_cases h16 : u < 16
    · rw [hexW_small h16] at hy
      exact ⟨u, h16, by simpa using hy⟩
    · rw [hexW_big h16] at hy
      rcases List.mem_append.1 hy with q | q
      · exact hexW_mem k (u / 16) (by omega) y q
      · exact ⟨u % 16, Nat.mod_lt _ (by decide), by simpa using q⟩
theorem hexW_ne (u : Nat) : hexW u ≠ [] := by
  by_cases h16 : u < 16
  · rw [hexW_small h16]; simp
  · rw [hexW_big h16]; simp
theorem hexW_all (u : Nat) : allD 16 (hexW u) = true := allD_iff.2 ⟨hexW_ne u, fun y hy => by
  obtain ⟨v, hv, rfl⟩ := hexW_mem u u (Nat.le_refl _) y hy
  exact (hexC_fine hv).1⟩
theorem wrdE_word (u : Nat) (hu : u < 18446744073709551616) : wrdE (wordD u).data.toList = (u, 0) := by
  unfold wrdE wordD
  rw [strOf_data]
  have e1 : (48 :: 120 :: hexW u).take 2 = [48, 120] := rfl
  have e2 : (48 :: 120 :: hexW u).drop 2 = hexW u := rfl
  rw [if_pos e1, e2, if_pos (hexW_all u), hexW_val u u (Nat.le_refl _), if_pos hu]
/-- Bytes: their value, and the error. -/
def bytE (s : List UInt8) : ByteArray × Int := bytD (strOf s)
theorem bytE_bytes (s : ByteArray) : bytE (bytesD s).data.toList = (s, 0) := by
  unfold bytE
  rw [strOf_self]
  exact bytD_bytesD s
/-- Numbers: the first that is none tells the error. -/
def numsE : List (List UInt8) → List Int × Int
  | [] => ([], 0)
  | s :: r => if (numE s).2 = 0 then (if (numsE r).2 = 0 then ((numE s).1 :: (numsE r).1, 0) else ([], (numsE r).2)) else ([], (numE s).2)
theorem numsE_nums : ∀ (l : List Int), (∀ n, n ∈ l → Fit n) → numsE (l.map (fun n => (numD n).data.toList)) = (l, 0)
  | [], _ => rfl
  | n :: r, h => by
    have ih := numsE_nums r (fun m hm => h m (List.mem_cons_of_mem _ hm))
    rw [List.map_cons, numsE, numE_num n (h n List.mem_cons_self), ih]
    rfl
/-- One letter of a form: what the fields say is laid into its place. -/
def rdF (c : CmdD) (p : Int) (fs : List (List UInt8)) : CmdD × Int :=
  let f0 := fs.headD []
  if p = 72 then ({ c with h := (numE f0).1 }, (numE f0).2)
  else if p = 78 then ({ c with n := (numE f0).1 }, (numE f0).2)
  else if p = 85 then ({ c with u := (wrdE f0).1 }, (wrdE f0).2)
  else if p = 86 then ({ c with v := (wrdE f0).1 }, (wrdE f0).2)
  else if p = 75 then ({ c with key := (bytE f0).1 }, (bytE f0).2)
  else if p = 69 then ({ c with elem := (bytE f0).1 }, (bytE f0).2)
  else if p = 70 then ({ c with fl := (numsE fs).1 }, (numsE fs).2)
  else if p = 83 then ({ c with hl := (numsE fs).1 }, (numsE fs).2)
  else (c, 0)
def zeroC : CmdD := ⟨0, 0, 0, 0, 0, ⟨#[]⟩, ⟨#[]⟩, [], []⟩
/-- All letters of a form, from left to right. -/
def rdFs (c : CmdD) : List UInt8 → List (List UInt8) → CmdD × Int
  | [], _ => (c, 0)
  | p :: r, fs => if (rdF c (p.toNat : Int) fs).2 = 0 then rdFs (rdF c (p.toNat : Int) fs).1 r (fs.drop 1) else (zeroC, (rdF c (p.toNat : Int) fs).2)
end Go.Proofs.YtfpiibccggjjpaaDoor
/-
  script: ParseUint to the base 16.
-/
namespace Go.Proofs.YtfpiibccggjjpaaDoor
open Go.RowKit
set_option linter.unusedVariables false

theorem lower_any (c : Int) (w : World) : Calls Tryd.prog 94 #[.int .u8 c] w fun e w' => e = .returned (.int .u8 (bits .or .u8 c 32)) ∧ w' = w := by
  go_enter Tryd.func94, Tryd.ntmps94
  go_wp2_with fail
  go_ret
  exact ⟨rfl, rfl⟩
theorem low_small (x : UInt8) (h : 97 ≤ x.toNat ∧ x.toNat ≤ 102) : bits .or .u8 (x.toNat : Int) 32 = (x.toNat : Int) ∧ digD (x.toNat : Int) = (x.toNat : Int) - 87 := by
  have : ∀ n : Fin 256, 97 ≤ n.1 ∧ n.1 ≤ 102 → bits .or .u8 (n.1 : Int) 32 = (n.1 : Int) ∧ digD (n.1 : Int) = (n.1 : Int) - 87 := by decide +kernel
  exact this ⟨x.toNat, x.toNat_lt⟩ h
theorem low_great (x : UInt8) (h : 65 ≤ x.toNat ∧ x.toNat ≤ 70) : bits .or .u8 (x.toNat : Int) 32 = (x.toNat : Int) + 32 ∧ digD (x.toNat : Int) = (x.toNat : Int) - 55 := by
  have : ∀ n : Fin 256, 65 ≤ n.1 ∧ n.1 ≤ 70 → bits .or .u8 (n.1 : Int) 32 = (n.1 : Int) + 32 ∧ digD (n.1 : Int) = (n.1 : Int) - 55 := by decide +kernel
  exact this ⟨x.toNat, x.toNat_lt⟩ h
theorem dig_kind (x : UInt8) (h : digD (x.toNat : Int) < 16) : (48 ≤ x.toNat ∧ x.toNat ≤ 57 ∧ digD (x.toNat : Int) = (x.toNat : Int) - 48) ∨ (97 ≤ x.toNat ∧ x.toNat ≤ 102) ∨ (65 ≤ x.toNat ∧ x.toNat ≤ 70) := by
  have : ∀ n : Fin 256, digD (n.1 : Int) < 16 → (48 ≤ n.1 ∧ n.1 ≤ 57 ∧ digD (n.1 : Int) = (n.1 : Int) - 48) ∨ (97 ≤ n.1 ∧ n.1 ≤ 102) ∨ (65 ≤ n.1 ∧ n.1 ≤ 70) := by decide +kernel
  exact this ⟨x.toNat, x.toNat_lt⟩ h
def uintR (v : Nat) : Value := if v < 18446744073709551616 then .tuple #[.int .u64 v, .nilIface] else .tuple #[.int .u64 18446744073709551615, .iface 141 (.int .i64 1)]
set_option maxRecDepth 100000 in
set_option maxHeartbeats 8000000 in
theorem pu16_any (t : ByteArray) (ht : t.size ≤ 8388608) (hall : allD 16 t.data.toList = true) (w : World) : Calls Tryd.prog 81 #[.string t, .int .i64 16, .int .i64 64] w fun e w' => e = .returned (uintR (hexV t.data.toList)) ∧ w' = Lib.bytesWorld w 5 t := by
  obtain ⟨hne0, hdig⟩ := allD_iff.1 hall
  have hne : t.size ≠ 0 := fun e => hne0 (List.length_eq_zero_iff.1 e)
  have hemp : t.toList.isEmpty = false := by
    rw [← decide_eq_emptyBytes]
    exact decide_eq_false (fun h => hne (by rw [h]; rfl))
  have hcv := Lib.run_convert_string_bytes (P := Tryd.prog) w 9 54 5 t (u := .string) Tryd.underlying9 Tryd.underlying54 Tryd.underlying5
  have hB : ∀ j, j < t.size → (Lib.bytesWorld w 5 t).cell? ⟨w.heap.size, j, none⟩ = some (.int .u8 (t.data.toList.getD j 0).toNat) := fun j hj => Lib.bytesWorld_cell w 5 t j hj
  obtain ⟨W1, hW1⟩ : ∃ W1, W1 = Lib.bytesWorld w 5 t := ⟨_, rfl⟩
  rw [← hW1] at hcv hB ⊢
  clear hW1
  obtain ⟨bs, hL⟩ : ∃ bs, bs = t.data.toList := ⟨_, rfl⟩
  have hLn : bs.length = t.size := by rw [hL]; rfl
  rw [← hL] at hB hdig ⊢
  clear hL hne0 hall
  obtain ⟨R, hR⟩ : ∃ R, R = uintR (hexV bs) := ⟨_, rfl⟩
  rw [← hR]
  have HR := hide hR
  have HD := hide hdig
  have HB := hide hB
  have Hlen := hide hLn
  clear hR hdig hB
  have hmv : IntKind.u64.wrap (IntKind.u64.wrap 18446744073709551616 - 1) = 18446744073709551615 := by
    rw [IntKind.wrap_u64, IntKind.wrap_u64]
    decide
  have hlo := fun c W => lower_any c W
  go_enter Tryd.func81, Tryd.ntmps81
  go_wp2_with fail
  go_loop [12, 13, 101] (fun vu vn vi => ∃ (k : Nat) (a : Int), vu = .bool false ∧ vn = .int .u64 a ∧ vi = .int .i64 k ∧ k ≤ t.size ∧ Hid (a = (hexV (bs.take k) : Int) ∧ hexV (bs.take k) < 18446744073709551616)) (fun _ _ vi => t.size - (intOf vi).toNat)
  case atStart => exact ⟨0, 0, rfl, rfl, rfl, by omega, rfl, by show 0 < _; omega⟩
  case round =>
    obtain ⟨k, a, rfl, rfl, rfl, hk, hh⟩ := hrel
    obtain ⟨ha, hacc⟩ := hh.out
    clear hh
    have a0 : 0 ≤ a := by omega
    have a1 : a < 18446744073709551616 := by omega
    by_cases hkn : k < t.size
    · have hc := HB.out k hkn
      have hkb : k < bs.length := by rw [hLn]; exact hkn
      have hget : bs.getD k 0 = bs[k]'hkb := by simp [List.getD, List.getElem?_eq_getElem hkb]
      rw [hget] at hc
      have hst := hexV_take hkb
      have hd := HD.out bs[k] (List.getElem_mem hkb)
      have hle := hexV_le bs (k + 1)
      rw [hst] at hle
      generalize bs[k]'hkb = c at hc hst hd hle
      have hc256 : c.toNat < 256 := c.toNat_lt
      have Hms : Hid (t.size - (k + 1) < t.size - k) := by show t.size - (k + 1) < t.size - k; omega
      clear hget
      rcases dig_kind c hd with ⟨q1, q2, q3⟩ | ⟨q1, q2⟩ | ⟨q1, q2⟩
      · rw [q3] at hst hle
        by_cases hcut : 1152921504606846976 ≤ a
        · have hF : R = .tuple #[.int .u64 18446744073709551615, .iface 141 (.int .i64 1)] := by
            rw [HR.out, uintR, if_neg (by omega)]
          subst hF
          clear hst hle hacc ha q3 hd HR
          go_wp2_with fail
          go_ret2
          exact ⟨rfl, rfl⟩
        · have HN : Hid (a * 16 + ((c.toNat : Int) - 48) = (hexV (bs.take (k + 1)) : Int) ∧ hexV (bs.take (k + 1)) < 18446744073709551616) := by
            rw [hst]
            exact ⟨by omega, by omega⟩
          have icut : a < 1152921504606846976 := by omega
          clear hst hle hacc ha q3 hd HR hcut
          go_wp2_with fail
          refine ⟨⟨k + 1, a * 16 + ((c.toNat : Int) - 48), rfl, (by first | rfl | (congr 1; omega)), (by first | rfl | (congr 1; omega)), by omega, HN⟩, by simp [intOf]; exact Hms.out⟩
      · obtain ⟨b1, b2⟩ := low_small c ⟨q1, q2⟩
        rw [b2] at hst hle
        have HL := hide (fun W => by have := hlo (c.toNat : Int) W; rw [b1] at this; exact this)
        by_cases hcut : 1152921504606846976 ≤ a
        · have hF : R = .tuple #[.int .u64 18446744073709551615, .iface 141 (.int .i64 1)] := by
            rw [HR.out, uintR, if_neg (by omega)]
          subst hF
          clear hst hle hacc ha hd HR b1 b2
          go_wp2_with (go_at_call 94; (with_reducible refine (HL.out _).mono ?_); rintro e w' ⟨rfl, rfl⟩)
          go_ret2
          exact ⟨rfl, rfl⟩
        · have HN : Hid (a * 16 + ((c.toNat : Int) - 87) = (hexV (bs.take (k + 1)) : Int) ∧ hexV (bs.take (k + 1)) < 18446744073709551616) := by
            rw [hst]
            exact ⟨by omega, by omega⟩
          have icut : a < 1152921504606846976 := by omega
          clear hst hle hacc ha hd HR hcut b1 b2
          go_wp2_with (go_at_call 94; (with_reducible refine (HL.out _).mono ?_); rintro e w' ⟨rfl, rfl⟩)
          refine ⟨⟨k + 1, a * 16 + ((c.toNat : Int) - 87), rfl, (by first | rfl | (congr 1; omega)), (by first | rfl | (congr 1; omega)), by omega, HN⟩, by simp [intOf]; exact Hms.out⟩
      · obtain ⟨b1, b2⟩ := low_great c ⟨q1, q2⟩
        rw [b2] at hst hle
        have HL := hide (fun W => by have := hlo (c.toNat : Int) W; rw [b1] at this; exact this)
        by_cases hcut : 1152921504606846976 ≤ a
        · have hF : R = .tuple #[.int .u64 18446744073709551615, .iface 141 (.int .i64 1)] := by
            rw [HR.out, uintR, if_neg (by omega)]
          subst hF
          clear hst hle hacc ha hd HR b1 b2
          go_wp2_with (go_at_call 94; (with_reducible refine (HL.out _).mono ?_); rintro e w' ⟨rfl, rfl⟩)
          go_ret2
          exact ⟨rfl, rfl⟩
        · have HN : Hid (a * 16 + ((c.toNat : Int) - 55) = (hexV (bs.take (k + 1)) : Int) ∧ hexV (bs.take (k + 1)) < 18446744073709551616) := by
            rw [hst]
            exact ⟨by omega, by omega⟩
          have icut : a < 1152921504606846976 := by omega
          clear hst hle hacc ha hd HR hcut b1 b2
          go_wp2_with (go_at_call 94; (with_reducible refine (HL.out _).mono ?_); rintro e w' ⟨rfl, rfl⟩)
          refine ⟨⟨k + 1, a * 16 + ((c.toNat : Int) - 55), rfl, (by first | rfl | (congr 1; omega)), (by first | rfl | (congr 1; omega)), by omega, HN⟩, by simp [intOf]; exact Hms.out⟩
    · obtain rfl : k = t.size := by omega
      rw [List.take_of_length_le (Nat.le_of_eq hLn)] at ha hacc
      have hF : R = .tuple #[.int .u64 a, .nilIface] := by
        rw [HR.out, uintR, if_pos hacc, ha]
      subst hF
      clear hacc ha a0 a1 HR
      go_wp2_with fail
      go_ret2
      exact ⟨rfl, rfl⟩
end Go.Proofs.YtfpiibccggjjpaaDoor
namespace Go.Proofs
open Go.Shelf
def Tryd.laysC245_ren : Go.Shelf.Ren := ⟨fun | 245 => 79 | 279 => 90 | 280 => 91 | 281 => 92 | 282 => 93 | 316 => 82 | 171 => 66 | 205 => 102 | 243 => 83 | 246 => 96 | 283 => 97 | 284 => 98 | 285 => 99 | 286 => 100 | 129 => 104 | 317 => 103 | 318 => 105 | 319 => 106 | 320 => 107 | 337 => 109 | 338 => 110 | n => n, fun | 9 => 9 | 3 => 3 | 75 => 58 | 167 => 141 | 4 => 4 | 168 => 142 | 210 => 153 | 37 => 54 | 0 => 0 | 127 => 79 | 145 => 162 | 143 => 160 | 2 => 2 | 171 => 147 | 53 => 31 | 5 => 5 | 173 => 150 | 212 => 156 | 51 => 157 | 20 => 20 | 213 => 158 | 46 => 123 | 232 => 164 | 233 => 165 | 80 => 62 | n => n, fun | 15 => 2 | 16 => 3 | 17 => 4 | 18 => 5 | 19 => 6 | n => n⟩
theorem Tryd.laysC245 : Go.Proofs.LaysC.n245 Tryd.prog Tryd.laysC245_ren := {
  mixed := by kernel_rfl
  f129 := Tryd.func104.trans (congrArg some (by kernel_rfl))
  f171 := Tryd.func66.trans (congrArg some (by kernel_rfl))
  f205 := Tryd.func102.trans (congrArg some (by kernel_rfl))
  f243 := Tryd.func83.trans (congrArg some (by kernel_rfl))
  f245 := Tryd.func79.trans (congrArg some (by kernel_rfl))
  f246 := Tryd.func96.trans (congrArg some (by kernel_rfl))
  f279 := Tryd.func90.trans (congrArg some (by kernel_rfl))
  f280 := Tryd.func91.trans (congrArg some (by kernel_rfl))
  f281 := Tryd.func92.trans (congrArg some (by kernel_rfl))
  f282 := Tryd.func93.trans (congrArg some (by kernel_rfl))
  f283 := Tryd.func97.trans (congrArg some (by kernel_rfl))
  f284 := Tryd.func98.trans (congrArg some (by kernel_rfl))
  f285 := Tryd.func99.trans (congrArg some (by kernel_rfl))
  f286 := Tryd.func100.trans (congrArg some (by kernel_rfl))
  f316 := Tryd.func82.trans (congrArg some (by kernel_rfl))
  f317 := Tryd.func103.trans (congrArg some (by kernel_rfl))
  f318 := Tryd.func105.trans (congrArg some (by kernel_rfl))
  f319 := Tryd.func106.trans (congrArg some (by kernel_rfl))
  f320 := Tryd.func107.trans (congrArg some (by kernel_rfl))
  f337 := Tryd.func109.trans (congrArg some (by kernel_rfl))
  f338 := Tryd.func110.trans (congrArg some (by kernel_rfl))
  t0 := Tryd.underlying0
  a0 := Tryd.isAgg0
  z0 := Tryd.sizeOf0
  v0 := Tryd.zeroValue0
  t2 := Tryd.underlying2
  a2 := Tryd.isAgg2
  z2 := Tryd.sizeOf2
  v2 := Tryd.zeroValue2
  t3 := Tryd.underlying3
  a3 := Tryd.isAgg3
  z3 := Tryd.sizeOf3
  v3 := Tryd.zeroValue3
  t4 := Tryd.underlying4
  a4 := Tryd.isAgg4
  z4 := Tryd.sizeOf4
  v4 := Tryd.zeroValue4
  t5 := Tryd.underlying5
  a5 := Tryd.isAgg5
  z5 := Tryd.sizeOf5
  v5 := Tryd.zeroValue5
  t9 := Tryd.underlying9
  a9 := Tryd.isAgg9
  z9 := Tryd.sizeOf9
  v9 := Tryd.zeroValue9
  t20 := Tryd.underlying20
  a20 := Tryd.isAgg20
  z20 := Tryd.sizeOf20
  v20 := Tryd.zeroValue20
  t37 := Tryd.underlying54
  a37 := Tryd.isAgg54
  z37 := Tryd.sizeOf54
  v37 := Tryd.zeroValue54
  t46 := Tryd.underlying123
  a46 := Tryd.isAgg123
  z46 := Tryd.sizeOf123
  v46 := Tryd.zeroValue123
  t51 := Tryd.underlying157
  a51 := Tryd.isAgg157
  z51 := Tryd.sizeOf157
  v51 := Tryd.zeroValue157
  t53 := Tryd.underlying31
  a53 := Tryd.isAgg31
  z53 := Tryd.sizeOf31
  v53 := Tryd.zeroValue31
  t75 := Tryd.underlying58
  a75 := Tryd.isAgg58
  z75 := Tryd.sizeOf58
  v75 := Tryd.zeroValue58
  t127 := Tryd.underlying79
  a127 := Tryd.isAgg79
  z127 := Tryd.sizeOf79
  v127 := Tryd.zeroValue79
  t143 := Tryd.underlying160
  a143 := Tryd.isAgg160
  z143 := Tryd.sizeOf160
  v143 := Tryd.zeroValue160
  t145 := Tryd.underlying162
  a145 := Tryd.isAgg162
  z145 := Tryd.sizeOf162
  v145 := Tryd.zeroValue162
  t167 := Tryd.underlying141
  a167 := Tryd.isAgg141
  z167 := Tryd.sizeOf141
  v167 := Tryd.zeroValue141
  t168 := Tryd.underlying142
  a168 := Tryd.isAgg142
  z168 := Tryd.sizeOf142
  v168 := Tryd.zeroValue142
  t171 := Tryd.underlying147
  a171 := Tryd.isAgg147
  z171 := Tryd.sizeOf147
  v171 := Tryd.zeroValue147
  t173 := Tryd.underlying150
  a173 := Tryd.isAgg150
  z173 := Tryd.sizeOf150
  v173 := Tryd.zeroValue150
  t210 := Tryd.underlying153
  a210 := Tryd.isAgg153
  z210 := Tryd.sizeOf153
  v210 := Tryd.zeroValue153
  t212 := Tryd.underlying156
  a212 := Tryd.isAgg156
  z212 := Tryd.sizeOf156
  v212 := Tryd.zeroValue156
  t213 := Tryd.underlying158
  a213 := Tryd.isAgg158
  z213 := Tryd.sizeOf158
  t232 := Tryd.underlying164
  a232 := Tryd.isAgg164
  z232 := Tryd.sizeOf164
  v232 := Tryd.zeroValue164
  t233 := Tryd.underlying165
  a233 := Tryd.isAgg165
  z233 := Tryd.sizeOf165
  v233 := Tryd.zeroValue165
  g15 := by kernel_rfl
  g16 := by kernel_rfl
  g17 := by kernel_rfl
  g18 := by kernel_rfl
  g19 := by kernel_rfl
  t80 := Tryd.underlying62
  a80 := Tryd.isAgg62
  z80 := Tryd.sizeOf62
  v80 := Tryd.zeroValue62
  i0 := by kernel_rfl
  i2 := by kernel_rfl
  i3 := by kernel_rfl
  i4 := by kernel_rfl
  i5 := by kernel_rfl
  i9 := by kernel_rfl
  i20 := by kernel_rfl
  i37 := by kernel_rfl
  i46 := by kernel_rfl
  i51 := by kernel_rfl
  i53 := by kernel_rfl
  i75 := by kernel_rfl
  i80 := by kernel_rfl
  i127 := by kernel_rfl
  i143 := by kernel_rfl
  i145 := by kernel_rfl
  i167 := by kernel_rfl
  i168 := by kernel_rfl
  i171 := by kernel_rfl
  i173 := by kernel_rfl
  i210 := by kernel_rfl
  i212 := by kernel_rfl
  i232 := by kernel_rfl
  i233 := by kernel_rfl
  m15 := by kernel_rfl
  m16 := by kernel_rfl
  m17 := by kernel_rfl
  m18 := by kernel_rfl
  m19 := by kernel_rfl
  c0 := by kernel_rfl
  c2 := by kernel_rfl
  c3 := by kernel_rfl
  c4 := by kernel_rfl
  c5 := by kernel_rfl
  c9 := by kernel_rfl
  c20 := by kernel_rfl
  c37 := by kernel_rfl
  c46 := by kernel_rfl
  c51 := by kernel_rfl
  c53 := by kernel_rfl
  c75 := by kernel_rfl
  c80 := by kernel_rfl
  c127 := by kernel_rfl
  c143 := by kernel_rfl
  c145 := by kernel_rfl
  c167 := by kernel_rfl
  c168 := by kernel_rfl
  c171 := by kernel_rfl
  c173 := by kernel_rfl
  c210 := by kernel_rfl
  c212 := by kernel_rfl
  c213 := by kernel_rfl
  c232 := by kernel_rfl
  c233 := by kernel_rfl }
open Go.RowKit in
theorem Tryd.strconv_toError_range (fn s : ByteArray) (base bits : Int) (ev : Value) (w : World) (hlim : s.size ≤ 281474976710656) (hv : w.cell? ⟨3, 0, none⟩ = some ev) (hev : ev = .nilIface ∨ ∃ te pe, ev = .iface te pe) :
    Calls Tryd.prog 79 #[.string fn, .string s, .int .i64 base, .int .i64 bits, .iface 141 (.int .i64 1)] w fun e w' => ∃ N, e = .returned (.iface 142 (.pointer (some ⟨N, 0, none⟩))) ∧ w.heap.size ≤ N ∧ w'.heap[N]? = some (.cells #[.string fn, .string s, ev] 153 (0, 0)) ∧ Below w.heap.size w w' := Any.strconv_toError_range Tryd.laysC245 fn s base bits ev w hlim hv hev
def Tryd.laysPu14_ren : Go.Shelf.Ren := ⟨fun | 14 => 63 | 16 => 81 | 17 => 79 | 19 => 94 | 20 => 95 | 21 => 90 | 22 => 91 | 23 => 92 | 24 => 93 | 25 => 82 | 27 => 66 | 26 => 102 | 28 => 83 | 29 => 96 | 30 => 97 | 31 => 98 | 32 => 99 | 33 => 100 | 35 => 104 | 34 => 103 | 36 => 105 | 37 => 106 | 38 => 107 | 39 => 109 | 40 => 110 | n => n, fun | 9 => 9 | 3 => 3 | 22 => 31 | 24 => 58 | 25 => 120 | 4 => 4 | 34 => 141 | 5 => 5 | 36 => 123 | 37 => 54 | 0 => 0 | 39 => 142 | 21 => 21 | 44 => 153 | 47 => 79 | 50 => 162 | 48 => 160 | 2 => 2 | 52 => 147 | 55 => 150 | 59 => 156 | 60 => 157 | 20 => 20 | 61 => 158 | 65 => 164 | 66 => 165 | 67 => 62 | n => n, fun | 0 => 2 | 1 => 3 | 2 => 4 | 3 => 5 | 4 => 6 | n => n⟩
theorem Tryd.laysPu14 : Go.Proofs.LaysPu.n14 Tryd.prog Tryd.laysPu14_ren := {
  mixed := by kernel_rfl
  f14 := Tryd.func63.trans (congrArg some (by kernel_rfl))
  f16 := Tryd.func81.trans (congrArg some (by kernel_rfl))
  f17 := Tryd.func79.trans (congrArg some (by kernel_rfl))
  f19 := Tryd.func94.trans (congrArg some (by kernel_rfl))
  f20 := Tryd.func95.trans (congrArg some (by kernel_rfl))
  f21 := Tryd.func90.trans (congrArg some (by kernel_rfl))
  f22 := Tryd.func91.trans (congrArg some (by kernel_rfl))
  f23 := Tryd.func92.trans (congrArg some (by kernel_rfl))
  f24 := Tryd.func93.trans (congrArg some (by kernel_rfl))
  f25 := Tryd.func82.trans (congrArg some (by kernel_rfl))
  f26 := Tryd.func102.trans (congrArg some (by kernel_rfl))
  f27 := Tryd.func66.trans (congrArg some (by kernel_rfl))
  f28 := Tryd.func83.trans (congrArg some (by kernel_rfl))
  f29 := Tryd.func96.trans (congrArg some (by kernel_rfl))
  f30 := Tryd.func97.trans (congrArg some (by kernel_rfl))
  f31 := Tryd.func98.trans (congrArg some (by kernel_rfl))
  f32 := Tryd.func99.trans (congrArg some (by kernel_rfl))
  f33 := Tryd.func100.trans (congrArg some (by kernel_rfl))
  f34 := Tryd.func103.trans (congrArg some (by kernel_rfl))
  f35 := Tryd.func104.trans (congrArg some (by kernel_rfl))
  f36 := Tryd.func105.trans (congrArg some (by kernel_rfl))
  f37 := Tryd.func106.trans (congrArg some (by kernel_rfl))
  f38 := Tryd.func107.trans (congrArg some (by kernel_rfl))
  f39 := Tryd.func109.trans (congrArg some (by kernel_rfl))
  f40 := Tryd.func110.trans (congrArg some (by kernel_rfl))
  t0 := Tryd.underlying0
  a0 := Tryd.isAgg0
  z0 := Tryd.sizeOf0
  v0 := Tryd.zeroValue0
  i0 := by kernel_rfl
  t2 := Tryd.underlying2
  a2 := Tryd.isAgg2
  z2 := Tryd.sizeOf2
  v2 := Tryd.zeroValue2
  i2 := by kernel_rfl
  t3 := Tryd.underlying3
  a3 := Tryd.isAgg3
  z3 := Tryd.sizeOf3
  v3 := Tryd.zeroValue3
  i3 := by kernel_rfl
  t4 := Tryd.underlying4
  a4 := Tryd.isAgg4
  z4 := Tryd.sizeOf4
  v4 := Tryd.zeroValue4
  i4 := by kernel_rfl
  t5 := Tryd.underlying5
  a5 := Tryd.isAgg5
  z5 := Tryd.sizeOf5
  v5 := Tryd.zeroValue5
  i5 := by kernel_rfl
  t9 := Tryd.underlying9
  a9 := Tryd.isAgg9
  z9 := Tryd.sizeOf9
  v9 := Tryd.zeroValue9
  i9 := by kernel_rfl
  t20 := Tryd.underlying20
  a20 := Tryd.isAgg20
  z20 := Tryd.sizeOf20
  v20 := Tryd.zeroValue20
  i20 := by kernel_rfl
  t21 := Tryd.underlying21
  a21 := Tryd.isAgg21
  z21 := Tryd.sizeOf21
  v21 := Tryd.zeroValue21
  i21 := by kernel_rfl
  t22 := Tryd.underlying31
  a22 := Tryd.isAgg31
  z22 := Tryd.sizeOf31
  v22 := Tryd.zeroValue31
  i22 := by kernel_rfl
  t24 := Tryd.underlying58
  a24 := Tryd.isAgg58
  z24 := Tryd.sizeOf58
  v24 := Tryd.zeroValue58
  i24 := by kernel_rfl
  t25 := Tryd.underlying120
  a25 := Tryd.isAgg120
  z25 := Tryd.sizeOf120
  v25 := Tryd.zeroValue120
  i25 := by kernel_rfl
  t34 := Tryd.underlying141
  a34 := Tryd.isAgg141
  z34 := Tryd.sizeOf141
  v34 := Tryd.zeroValue141
  i34 := by kernel_rfl
  c34 := by kernel_rfl
  t36 := Tryd.underlying123
  a36 := Tryd.isAgg123
  z36 := Tryd.sizeOf123
  v36 := Tryd.zeroValue123
  i36 := by kernel_rfl
  t37 := Tryd.underlying54
  a37 := Tryd.isAgg54
  z37 := Tryd.sizeOf54
  v37 := Tryd.zeroValue54
  i37 := by kernel_rfl
  t39 := Tryd.underlying142
  a39 := Tryd.isAgg142
  z39 := Tryd.sizeOf142
  v39 := Tryd.zeroValue142
  i39 := by kernel_rfl
  t44 := Tryd.underlying153
  a44 := Tryd.isAgg153
  z44 := Tryd.sizeOf153
  v44 := Tryd.zeroValue153
  i44 := by kernel_rfl
  t47 := Tryd.underlying79
  a47 := Tryd.isAgg79
  z47 := Tryd.sizeOf79
  v47 := Tryd.zeroValue79
  i47 := by kernel_rfl
  t48 := Tryd.underlying160
  a48 := Tryd.isAgg160
  z48 := Tryd.sizeOf160
  v48 := Tryd.zeroValue160
  i48 := by kernel_rfl
  t50 := Tryd.underlying162
  a50 := Tryd.isAgg162
  z50 := Tryd.sizeOf162
  v50 := Tryd.zeroValue162
  i50 := by kernel_rfl
  t52 := Tryd.underlying147
  a52 := Tryd.isAgg147
  z52 := Tryd.sizeOf147
  v52 := Tryd.zeroValue147
  i52 := by kernel_rfl
  t55 := Tryd.underlying150
  a55 := Tryd.isAgg150
  z55 := Tryd.sizeOf150
  v55 := Tryd.zeroValue150
  i55 := by kernel_rfl
  t59 := Tryd.underlying156
  a59 := Tryd.isAgg156
  z59 := Tryd.sizeOf156
  v59 := Tryd.zeroValue156
  i59 := by kernel_rfl
  t60 := Tryd.underlying157
  a60 := Tryd.isAgg157
  z60 := Tryd.sizeOf157
  v60 := Tryd.zeroValue157
  i60 := by kernel_rfl
  t61 := Tryd.underlying158
  a61 := Tryd.isAgg158
  z61 := Tryd.sizeOf158
  t65 := Tryd.underlying164
  a65 := Tryd.isAgg164
  z65 := Tryd.sizeOf164
  v65 := Tryd.zeroValue164
  i65 := by kernel_rfl
  t66 := Tryd.underlying165
  a66 := Tryd.isAgg165
  z66 := Tryd.sizeOf165
  v66 := Tryd.zeroValue165
  i66 := by kernel_rfl
  t67 := Tryd.underlying62
  a67 := Tryd.isAgg62
  z67 := Tryd.sizeOf62
  v67 := Tryd.zeroValue62
  i67 := by kernel_rfl
  g0 := by kernel_rfl
  m0 := by kernel_rfl
  g1 := by kernel_rfl
  m1 := by kernel_rfl
  g2 := by kernel_rfl
  m2 := by kernel_rfl
  g3 := by kernel_rfl
  m3 := by kernel_rfl
  g4 := by kernel_rfl
  m4 := by kernel_rfl }
open Go.RowKit in
theorem Tryd.strconv_ParseUint_10_at64_ok (s : ByteArray) (hmax : s.size ≤ 9223372036854775806) (u : Nat) (h : Lib.parseUintB 64 s.data.toList = .ok u) (w : World) :
    Calls Tryd.prog 63 #[.string s, .int .i64 10, .int .i64 64] w fun e w' => e = .returned (.tuple #[.int .u64 u, .nilIface]) ∧ (w' = w ∨ w' = Lib.bytesWorld w 5 s) := Any.strconv_ParseUint_10_at64_ok Tryd.laysPu14 s hmax u h w
open Go.RowKit in
theorem Tryd.strconv_ParseUint_10_at64_syntax (s : ByteArray) (hlim : s.size ≤ 281474976710656) (h : Lib.parseUintB 64 s.data.toList = .«syntax») (ev : Value) (w : World) (hv : w.cell? ⟨2, 0, none⟩ = some ev) (hev : ev = .nilIface ∨ ∃ te pe, ev = .iface te pe) :
    Calls Tryd.prog 63 #[.string s, .int .i64 10, .int .i64 64] w fun e w' => ∃ N, e = .returned (.tuple #[.int .u64 0, .iface 142 (.pointer (some ⟨N, 0, none⟩))]) ∧ w.heap.size ≤ N ∧ w'.heap[N]? = some (.cells #[.string ⟨#[80, 97, 114, 115, 101, 85, 105, 110, 116]⟩, .string s, ev] 153 (0, 0)) ∧ Below w.heap.size w w' := Any.strconv_ParseUint_10_at64_syntax Tryd.laysPu14 s hlim h ev w hv hev
open Go.RowKit in
theorem Tryd.strconv_ParseUint_10_at64_range (s : ByteArray) (hlim : s.size ≤ 281474976710656) (h : Lib.parseUintB 64 s.data.toList = .range) (ev : Value) (w : World) (hv : w.cell? ⟨3, 0, none⟩ = some ev) (hev : ev = .nilIface ∨ ∃ te pe, ev = .iface te pe) :
    Calls Tryd.prog 63 #[.string s, .int .i64 10, .int .i64 64] w fun e w' => ∃ N, e = .returned (.tuple #[.int .u64 18446744073709551615, .iface 142 (.pointer (some ⟨N, 0, none⟩))]) ∧ w.heap.size ≤ N ∧ w'.heap[N]? = some (.cells #[.string ⟨#[80, 97, 114, 115, 101, 85, 105, 110, 116]⟩, .string s, ev] 153 (0, 0)) ∧ Below w.heap.size w w' := Any.strconv_ParseUint_10_at64_range Tryd.laysPu14 s hlim h ev w hv hev
def Tryd.lays99_ren : Go.Shelf.Ren := ⟨fun | 99 => 62 | 206 => 80 | n => n, fun | 9 => 9 | 4 => 4 | 3 => 3 | n => n, fun | n => n⟩
theorem Tryd.lays99 : Go.Proofs.Lays.n99 Tryd.prog Tryd.lays99_ren := {
  mixed := by kernel_rfl
  f99 := Tryd.func62.trans (congrArg some (by kernel_rfl))
  f206 := Tryd.func80.trans (congrArg some (by kernel_rfl))
  t3 := Tryd.underlying3
  a3 := Tryd.isAgg3
  z3 := Tryd.sizeOf3
  v3 := Tryd.zeroValue3
  t4 := Tryd.underlying4
  a4 := Tryd.isAgg4
  z4 := Tryd.sizeOf4
  v4 := Tryd.zeroValue4
  t9 := Tryd.underlying9
  a9 := Tryd.isAgg9
  z9 := Tryd.sizeOf9
  v9 := Tryd.zeroValue9 }
open Go.RowKit Go.Lib in
theorem Tryd.strings_HasPrefix (s p : ByteArray) (w : World) :
    Calls Tryd.prog 62 #[.string s, .string p] w fun e w' => e = .returned (.bool (Lib.hasPrefix s.data.toList p.data.toList)) ∧ w' = w := Any.strings_HasPrefix Tryd.lays99 s p w
def Tryd.lays150_ren : Go.Shelf.Ren := ⟨fun | 150 => 43 | 153 => 58 | 152 => 72 | 226 => 73 | 227 => 74 | 228 => 75 | 137 => 86 | 119 => 87 | 224 => 88 | 225 => 89 | 217 => 101 | 266 => 108 | n => n, fun | 9 => 9 | 4 => 4 | 3 => 3 | 5 => 5 | 21 => 21 | 117 => 131 | 116 => 130 | 0 => 0 | 46 => 123 | 124 => 140 | n => n, fun | n => n⟩
theorem Tryd.lays150 : Go.Proofs.Lays.n150 Tryd.prog Tryd.lays150_ren := {
  mixed := by kernel_rfl
  f119 := Tryd.func87.trans (congrArg some (by kernel_rfl))
  f137 := Tryd.func86.trans (congrArg some (by kernel_rfl))
  f150 := Tryd.func43.trans (congrArg some (by kernel_rfl))
  f152 := Tryd.func72.trans (congrArg some (by kernel_rfl))
  f153 := Tryd.func58.trans (congrArg some (by kernel_rfl))
  f217 := Tryd.func101.trans (congrArg some (by kernel_rfl))
  f224 := Tryd.func88.trans (congrArg some (by kernel_rfl))
  f225 := Tryd.func89.trans (congrArg some (by kernel_rfl))
  f226 := Tryd.func73.trans (congrArg some (by kernel_rfl))
  f227 := Tryd.func74.trans (congrArg some (by kernel_rfl))
  f228 := Tryd.func75.trans (congrArg some (by kernel_rfl))
  f266 := Tryd.func108.trans (congrArg some (by kernel_rfl))
  t0 := Tryd.underlying0
  a0 := Tryd.isAgg0
  z0 := Tryd.sizeOf0
  v0 := Tryd.zeroValue0
  t3 := Tryd.underlying3
  a3 := Tryd.isAgg3
  z3 := Tryd.sizeOf3
  v3 := Tryd.zeroValue3
  t4 := Tryd.underlying4
  a4 := Tryd.isAgg4
  z4 := Tryd.sizeOf4
  v4 := Tryd.zeroValue4
  t5 := Tryd.underlying5
  a5 := Tryd.isAgg5
  z5 := Tryd.sizeOf5
  v5 := Tryd.zeroValue5
  t9 := Tryd.underlying9
  a9 := Tryd.isAgg9
  z9 := Tryd.sizeOf9
  v9 := Tryd.zeroValue9
  t21 := Tryd.underlying21
  a21 := Tryd.isAgg21
  z21 := Tryd.sizeOf21
  v21 := Tryd.zeroValue21
  t46 := Tryd.underlying123
  a46 := Tryd.isAgg123
  z46 := Tryd.sizeOf123
  v46 := Tryd.zeroValue123
  t116 := Tryd.underlying130
  a116 := Tryd.isAgg130
  z116 := Tryd.sizeOf130
  t117 := Tryd.underlying131
  a117 := Tryd.isAgg131
  z117 := Tryd.sizeOf131
  v117 := Tryd.zeroValue131
  t124 := Tryd.underlying140
  a124 := Tryd.isAgg140
  z124 := Tryd.sizeOf140
  v124 := Tryd.zeroValue140 }
open Go.RowKit Go.Lib in
theorem Tryd.strings_ContainsAny (hv116 : ∀ w, (zeroValue 130).run Tryd.prog w = .ok (.agg (Array.replicate 256 (.bool false))) w) (s chars : ByteArray) (w : World) (hs : s.size < 4294967281) (hcs : chars.size < 4294967281) (has : ∀ (j : Nat) b, s.data.toList[j]? = some b → b.toNat < 128) (hac : ∀ (j : Nat) b, chars.data.toList[j]? = some b → b.toNat < 128) :
    Calls Tryd.prog 43 #[.string s, .string chars] w fun e w' => e = .returned (.bool (Lib.containsAny s.data.toList chars.data.toList)) ∧ Below w.heap.size w w' := Any.strings_ContainsAny Tryd.lays150 hv116 (by kernel_rfl) s chars w hs hcs has hac
open Go.RowKit Go.Lib in
theorem Tryd.strings_ContainsAny_laid (s chars : ByteArray) (w : World) (hs : s.size < 4294967281) (hcs : chars.size < 4294967281) (has : ∀ (j : Nat) b, s.data.toList[j]? = some b → b.toNat < 128) (hac : ∀ (j : Nat) b, chars.data.toList[j]? = some b → b.toNat < 128) :
    Calls Tryd.prog 43 #[.string s, .string chars] w fun e w' => e = .returned (.bool (Lib.containsAny s.data.toList chars.data.toList)) ∧ Below w.heap.size w w' := Any.strings_ContainsAny_laid Tryd.lays150 (by kernel_rfl) s chars w hs hcs has hac
end Go.Proofs
/-
  script: number and word64, exactly.
-/
namespace Go.Proofs.YtfpiibccggjjpaaDoor
open Go.RowKit
set_option linter.unusedVariables false

set_option maxRecDepth 100000 in
set_option maxHeartbeats 2000000 in
theorem number_exact (s : ByteArray) (hs : s.size ≤ 8388608) (w : World) (he : ErrW w) : Calls Tryd.prog 44 #[.string s] w fun e w' => e = .returned (.tuple #[.int .i64 (numE s.data.toList).1, .int .i64 (numE s.data.toList).2]) ∧ Keeps w w' (fun _ => False) := by
  have hT := Tryd.strings_TrimPrefix s ⟨#[45]⟩ w
  have hA := fun (t : ByteArray) (W : World) => allDigits_any t 10 (by omega) W
  have hP := fun (W : World) (k : Keeps w W (fun _ => False)) => parse_any s hs W (he.keeps k)
  obtain ⟨R, hR⟩ : ∃ R, R = numE s.data.toList := ⟨_, rfl⟩
  rw [← hR]
  unfold numE at hR
  have e45 : (⟨#[45]⟩ : ByteArray).data.toList = [45] := rfl
  rw [e45] at hT
  have hTT : ((⟨(Lib.trimPrefix s.data.toList [45]).toArray⟩ : ByteArray)).data.toList = Lib.trimPrefix s.data.toList [45] := by simp
  rw [← hTT] at hR
  generalize (⟨(Lib.trimPrefix s.data.toList [45]).toArray⟩ : ByteArray) = T at *
  have HP := hide hP
  have hA1 := hA T w
  generalize allD 10 T.data.toList = A at *
  have HR := hide hR
  clear hP hA hR hTT e45
  go_enter Tryd.func44, Tryd.ntmps44
  go_wp2_with fail
  (with_reducible refine hT.mono ?_)
  rintro e w0 ⟨rfl, rfl⟩
  go_wp2_with fail
  (with_reducible refine hA1.mono ?_)
  rintro e w1 ⟨rfl, k1⟩
  have K1 := hide k1
  clear hT hA1 k1
  cases A with
  | false =>
    obtain rfl : R = (0, 160) := by simpa using HR.out
    go_wp2_with fail
    refine bodyPost_ret (v := .tuple #[.int .i64 0, .int .i64 160]) (by simp [results, Tryd.results44, go_sem]) rfl ?_
    exact ⟨rfl, K1.out⟩
  | true =>
    go_wp2_with fail
    (with_reducible refine (HP.out _ K1.out).mono ?_)
    rintro e w2 ⟨⟨n, rfl, b1, b2⟩ | ⟨n, te, pe, rfl, b1⟩, k2⟩
    · have K2 := hide (K1.out.trans k2 (fun _ _ e => e))
      obtain rfl : R = (n, 0) := by simpa [b2] using HR.out
      clear k2 b1 b2
      go_wp2_with fail
      refine bodyPost_ret (v := .tuple #[.int .i64 n, .int .i64 0]) (by simp [results, Tryd.results44, go_sem]) rfl ?_
      exact ⟨rfl, K2.out⟩
    · have K2 := hide (K1.out.trans k2 (fun _ _ e => e))
      obtain rfl : R = (0, 161) := by
        have h := HR.out
        cases hp : Lib.parseIntB 64 s.data.toList with
        | ok v => exact absurd hp (b1 v)
        | «syntax» => simpa [hp] using h
        | range => simpa [hp] using h
      clear k2 b1
      go_wp2_with fail
      refine bodyPost_ret (v := .tuple #[.int .i64 0, .int .i64 161]) (by simp [results, Tryd.results44, go_sem]) rfl ?_
      exact ⟨rfl, K2.out⟩

theorem numE_fit (s : List UInt8) : Fit (numE s).1 := by
  unfold numE
  split
  · split
    · rename_i v h
      exact parse_fits h
    · exact ⟨by decide, by decide⟩
  · exact ⟨by decide, by decide⟩
theorem parseU_fits {l : List UInt8} {v : Nat} (h : Lib.parseUintB 64 l = .ok v) : v < 18446744073709551616 := by
  have hM : ∀ (l : List UInt8) (acc : Nat), acc ≤ 18446744073709551615 → ∀ v, Lib.parseUintM 18446744073709551615 acc l = .ok v → v ≤ 18446744073709551615 := by
    intro l
    induction l with
    | nil =>
      intro acc ha v h
      simp only [Lib.parseUintM] at h
      injection h with h
      omega
    | cons c r ih =>
      intro acc ha v h
      simp only [Lib.parseUintM] at h
      split at h
      · split at h
        · cases h
        · split at h
          · cases h
          · rename_i q
            exact ih _ (by omega) v h
      · cases h
  unfold Lib.parseUintB at h
  split at h
  · cases h
  · have := hM l 0 (by omega) v h
    omega
theorem wrdE_fit (s : List UInt8) : (wrdE s).1 < 18446744073709551616 := by
  unfold wrdE
  split
  · split
    · split
      · assumption
      · decide
    · decide
  · split
    · split
      · rename_i v h
        exact parseU_fits h
      · decide
    · decide
/-- ParseUint to the base 10: a word, or some error. -/
theorem parseU_any (s : ByteArray) (hs : s.size ≤ 8388608) (w : World) (he : ErrW w) : Calls Tryd.prog 63 #[.string s, .int .i64 10, .int .i64 64] w fun e w' => ((∃ n : Nat, e = .returned (.tuple #[.int .u64 (n : Int), .nilIface]) ∧ Lib.parseUintB 64 s.data.toList = .ok n) ∨ ∃ n te pe, e = .returned (.tuple #[.int .u64 n, .iface te pe]) ∧ ∀ v, Lib.parseUintB 64 s.data.toList ≠ .ok v) ∧ Keeps w w' (fun _ => False) := by
  cases h : Lib.parseUintB 64 s.data.toList with
  | ok v =>
    refine (Tryd.strconv_ParseUint_10_at64_ok s (by omega) v h w).mono ?_
    rintro e w' ⟨rfl, hw⟩
    refine ⟨Or.inl ⟨v, rfl, rfl⟩, ?_⟩
    rcases hw with rfl | rfl
    · exact Keeps.refl _ _
    · exact bytesWorld_keeps w 5 s
  | «syntax» =>
    obtain ⟨ev, h1, h2⟩ := he.syn
    refine (Tryd.strconv_ParseUint_10_at64_syntax s (by omega) h ev w h1 h2).mono ?_
    rintro e w' ⟨N, rfl, -, -, hb⟩
    exact ⟨Or.inr ⟨_, _, _, rfl, fun v e => by cases e⟩, keeps_of_below hb⟩
  | range =>
    obtain ⟨ev, h1, h2⟩ := he.rng
    refine (Tryd.strconv_ParseUint_10_at64_range s (by omega) h ev w h1 h2).mono ?_
    rintro e w' ⟨N, rfl, -, -, hb⟩
    exact ⟨Or.inr ⟨_, _, _, rfl, fun v e => by cases e⟩, keeps_of_below hb⟩
set_option maxRecDepth 100000 in
set_option maxHeartbeats 2000000 in
/-- ParseUint to the base 16, of digits. -/
theorem parseX_any (s : ByteArray) (hs : s.size ≤ 8388608) (hall : allD 16 s.data.toList = true) (w : World) (he : ErrW w) : Calls Tryd.prog 63 #[.string s, .int .i64 16, .int .i64 64] w fun e w' => ((∃ n : Nat, e = .returned (.tuple #[.int .u64 (n : Int), .nilIface]) ∧ hexV s.data.toList = n ∧ n < 18446744073709551616) ∨ ∃ n te pe, e = .returned (.tuple #[.int .u64 n, .iface te pe]) ∧ ¬ hexV s.data.toList < 18446744073709551616) ∧ Keeps w w' (fun _ => False) := by
  have hI := pu16_any s hs hall w
  obtain ⟨ev, h1, h2⟩ := he.rng
  have hE := fun (W : World) (k : Keeps w W (fun _ => False)) => Tryd.strconv_toError_range ⟨#[80, 97, 114, 115, 101, 85, 105, 110, 116]⟩ s 16 64 ev W (by omega) (keeps_cell k h1) h2
  have kb : Keeps w (Lib.bytesWorld w 5 s) (fun _ => False) := bytesWorld_keeps w 5 s
  generalize Lib.bytesWorld w 5 s = W1 at *
  have HE := hide (hE W1 kb)
  have HK := hide kb
  clear hE kb h1 h2
  generalize hexV s.data.toList = V at *
  unfold uintR at hI
  by_cases hv : V < 18446744073709551616
  · rw [if_pos hv] at hI
    have HV := hide hv
    clear hv
    go_enter Tryd.func63, Tryd.ntmps63
    go_wp2_with fail
    (with_reducible refine hI.mono ?_)
    rintro e w0 ⟨rfl, rfl⟩
    clear hI
    go_wp2_with fail
    refine bodyPost_ret (v := .tuple #[.int .u64 (V : Int), .nilIface]) (by simp [results, Tryd.results63, go_sem]) rfl ?_
    exact ⟨Or.inl ⟨V, rfl, rfl, HV.out⟩, HK.out⟩
  · rw [if_neg hv] at hI
    have HV := hide hv
    clear hv
    go_enter Tryd.func63, Tryd.ntmps63
    go_wp2_with fail
    (with_reducible refine hI.mono ?_)
    rintro e w0 ⟨rfl, rfl⟩
    clear hI
    go_wp2_with fail
    (with_reducible refine HE.out.mono ?_)
    rintro e w2 ⟨N, rfl, -, -, hb⟩
    have K2 := hide (HK.out.trans (keeps_of_below hb) (fun _ _ e => e))
    clear hb
    go_wp2_with fail
    refine bodyPost_ret (v := .tuple #[.int .u64 18446744073709551615, .iface 142 (.pointer (some ⟨N, 0, none⟩))]) (by simp [results, Tryd.results63, go_sem]) rfl ?_
    exact ⟨Or.inr ⟨_, _, _, rfl, HV.out⟩, K2.out⟩
theorem pre_0x (s : ByteArray) : Lib.hasPrefix s.data.toList (⟨#[48, 120]⟩ : ByteArray).data.toList = decide (s.data.toList.take 2 = [48, 120]) := by
  show List.isPrefixOf [48, 120] s.data.toList = _
  rcases s.data.toList with _ | ⟨a, _ | ⟨b, t⟩⟩
  · rfl
  · simp [List.isPrefixOf]
  · simp [List.isPrefixOf]
    have e : ∀ x y : UInt8, (x == y) = decide (y = x) := fun x y => by
      by_cases h : y = x
      · simp [h]
      · rw [decide_eq_false h, beq_eq_false_iff_ne]
        exact fun q => h q.symm
    rw [e, e]
set_option maxRecDepth 100000 in
set_option maxHeartbeats 4000000 in
theorem word_exact (s : ByteArray) (hs : s.size ≤ 8388608) (w : World) (he : ErrW w) : Calls Tryd.prog 45 #[.string s] w fun e w' => e = .returned (.tuple #[.int .u64 ((wrdE s.data.toList).1 : Int), .int .i64 (wrdE s.data.toList).2]) ∧ Keeps w w' (fun _ => False) := by
  have hT := Tryd.strings_HasPrefix s ⟨#[48, 120]⟩ w
  rw [pre_0x] at hT
  obtain ⟨R, hR⟩ : ∃ R, R = wrdE s.data.toList := ⟨_, rfl⟩
  rw [← hR]
  unfold wrdE at hR
  have HR := hide hR
  clear hR
  by_cases h2 : s.data.toList.take 2 = [48, 120]
  · have hR2 : R = if allD 16 (s.data.toList.drop 2) = true then (if hexV (s.data.toList.drop 2) < 18446744073709551616 then (hexV (s.data.toList.drop 2), 0) else (0, 161)) else (0, 160) := by rw [HR.out, if_pos h2]
    have hsz : 2 ≤ s.size := by
      have := congrArg List.length h2
      rw [List.length_take] at this
      have e : s.data.toList.length = s.size := rfl
      simp at this
      omega
    rw [decide_eq_true h2] at hT
    have hX : (s.extract 2 s.size).data.toList = s.data.toList.drop 2 := by
      rw [extract_eq, strOf_data, List.take_of_length_le (show s.data.toList.length ≤ s.size from Nat.le_refl _)]
    have hXs : (s.extract 2 s.size).size ≤ 8388608 := by rw [ByteArray.size_extract]; omega
    rw [← hX] at hR2
    have hsz' : (2 : Int) ≤ (s.size : Int) := by omega
    have hcut := fun (W : World) => (rfl : s.extract 2 s.size = s.extract 2 s.size)
    clear hcut HR h2 hX
    obtain ⟨X, hXe⟩ : ∃ X, s.extract 2 s.size = X := ⟨_, rfl⟩
    rw [hXe] at hR2 hXs
    have hA1 := fun W => allDigits_any X 16 (by omega) W
    have HP := hide (fun (W : World) (k : Keeps w W (fun _ => False)) (h : allD 16 X.data.toList = true) => parseX_any X hXs h W (he.keeps k))
    have HR2 := hide hR2
    have HX := hide hXe
    clear hR2 hXs hXe he
    cases hA : allD 16 X.data.toList with
    | false =>
      rw [hA] at hA1 HR2
      obtain rfl : R = (0, 160) := by simpa using HR2.out
      clear HR2 HP hA
      go_enter Tryd.func45, Tryd.ntmps45
      go_wp2_with fail
      (with_reducible refine hT.mono ?_)
      rintro e w0 ⟨rfl, rfl⟩
      clear hT
      go_wp2_with fail
      rw [HX.out]
      (with_reducible refine (hA1 _).mono ?_)
      rintro e w1 ⟨rfl, k1⟩
      have K1 := hide k1
      clear k1 hA1
      go_wp2_with fail
      refine bodyPost_ret (v := .tuple #[.int .u64 0, .int .i64 160]) (by simp [results, Tryd.results45, go_sem]) rfl ?_
      exact ⟨rfl, K1.out⟩
    | true =>
      have HP1 := hide (fun W k => HP.out W k hA)
      rw [hA] at hA1 HR2
      clear HP
      generalize hexV X.data.toList = V at *
      clear hA
      go_enter Tryd.func45, Tryd.ntmps45
      go_wp2_with fail
      (with_reducible refine hT.mono ?_)
      rintro e w0 ⟨rfl, rfl⟩
      clear hT
      go_wp2_with fail
      rw [HX.out]
      (with_reducible refine (hA1 _).mono ?_)
      rintro e w1 ⟨rfl, k1⟩
      have K1 := hide k1
      clear k1 hA1
      go_wp2_with fail
      (with_reducible refine (HP1.out _ K1.out).mono ?_)
      rintro e w2 ⟨⟨n, rfl, b1, b2⟩ | ⟨n, te, pe, rfl, b1⟩, k2⟩
      · have K2 := hide (K1.out.trans k2 (fun _ _ e => e))
        obtain rfl : R = (n, 0) := by
          have h := HR2.out
          rw [b1] at h
          simpa [b2] using h
        clear k2 b1 b2 HR2 HP1
        go_wp2_with fail
        refine bodyPost_ret (v := .tuple #[.int .u64 (n : Int), .int .i64 0]) (by simp [results, Tryd.results45, go_sem]) rfl ?_
        exact ⟨rfl, K2.out⟩
      · have K2 := hide (K1.out.trans k2 (fun _ _ e => e))
        obtain rfl : R = (0, 161) := by simpa [b1] using HR2.out
        clear k2 b1 HR2 HP1
        go_wp2_with fail
        refine bodyPost_ret (v := .tuple #[.int .u64 0, .int .i64 161]) (by simp [results, Tryd.results45, go_sem]) rfl ?_
        exact ⟨rfl, K2.out⟩
  · have hR2 : R = if allD 10 s.data.toList = true then ((match Lib.parseUintB 64 s.data.toList with
      | .ok v => (v, 0)
      | _ => (0, 161)) : Nat × Int) else (0, 160) := by first | (rw [HR.out, if_neg h2]; done) | (rw [HR.out, if_neg h2]; rfl)
    rw [decide_eq_false h2] at hT
    have hA1 := fun W => allDigits_any s 10 (by omega) W
    have HP := hide (fun (W : World) (k : Keeps w W (fun _ => False)) => parseU_any s hs W (he.keeps k))
    have HR2 := hide hR2
    clear hR2 HR h2
    generalize allD 10 s.data.toList = A at *
    go_enter Tryd.func45, Tryd.ntmps45
    go_wp2_with fail
    (with_reducible refine hT.mono ?_)
    rintro e w0 ⟨rfl, rfl⟩
    clear hT
    go_wp2_with fail
    (with_reducible refine (hA1 _).mono ?_)
    rintro e w1 ⟨rfl, k1⟩
    have K1 := hide k1
    clear k1 hA1
    cases A with
    | false =>
      obtain rfl : R = (0, 160) := by simpa using HR2.out
      go_wp2_with fail
      refine bodyPost_ret (v := .tuple #[.int .u64 0, .int .i64 160]) (by simp [results, Tryd.results45, go_sem]) rfl ?_
      exact ⟨rfl, K1.out⟩
    | true =>
      go_wp2_with fail
      (with_reducible refine (HP.out _ K1.out).mono ?_)
      rintro e w2 ⟨⟨n, rfl, b1⟩ | ⟨n, te, pe, rfl, b1⟩, k2⟩
      · have K2 := hide (K1.out.trans k2 (fun _ _ e => e))
        obtain rfl : R = (n, 0) := by simpa [b1] using HR2.out
        clear k2 b1 HR2 HP
        go_wp2_with fail
        refine bodyPost_ret (v := .tuple #[.int .u64 (n : Int), .int .i64 0]) (by simp [results, Tryd.results45, go_sem]) rfl ?_
        exact ⟨rfl, K2.out⟩
      · have K2 := hide (K1.out.trans k2 (fun _ _ e => e))
        obtain rfl : R = (0, 161) := by
          have h := HR2.out
          cases hp : Lib.parseUintB 64 s.data.toList with
          | ok v => exact absurd hp (b1 v)
          | «syntax» => simpa [hp] using h
          | range => simpa [hp] using h
        clear k2 b1 HR2 HP
        go_wp2_with fail
        refine bodyPost_ret (v := .tuple #[.int .u64 0, .int .i64 161]) (by simp [results, Tryd.results45, go_sem]) rfl ?_
        exact ⟨rfl, K2.out⟩
end Go.Proofs.YtfpiibccggjjpaaDoor
