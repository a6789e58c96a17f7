import Derived.Deep.Cut
import Derived.RangeFuncRecord
import Derived.Laws.RangeString
import Derived.Deep.LoopGhost
import Derived.Laws.AppendOwnNone
import Derived.Shelf.Strings.Builder1
import Derived.Shelf.Strings.Builder2
import Derived.Shelf.Strings.OnBuilder
import Derived.Shelf.Small.Utf8
import Derived.Shelf.Small.Strs
import Derived.Shelf.Strconv.Itoa0
import Derived.Shelf.Strconv.Itoa1
import Derived.Shelf.LaysM
import Derived.Shelf.Strconv.Itoa2
import Derived.Shelf.Strconv.Itoa3
import Derived.Shelf.Strconv.ParseIntEmpty
import Derived.Shelf.Strconv.Clone
import Derived.Shelf.Strconv.SyntaxError
import Derived.Shelf.LaysC
import Derived.Shelf.Strconv.ToError
import Derived.Shelf.Strconv.Lower
import Derived.Shelf.Strconv.ParseUint10
import Derived.Shelf.Strconv.ParseUint10Empty
import Derived.Shelf.Strconv.ParseUint10Any
import Derived.Shelf.Strconv.ParseInt10
import Derived.Shelf.Strconv.RangeError
import Derived.Shelf.Strconv.ToErrorRange
import Derived.Shelf.Strconv.ParseUintEmpty
import Derived.Shelf.Strconv.ParseUint10b64
import Derived.Shelf.Strconv.ParseUint10b32
import Derived.Shelf.Strconv.ParseUint10b16
import Derived.Shelf.Strconv.ParseUint10b8
import Derived.Shelf.Strconv.ParseUint10At
import Derived.Shelf.Strconv.ParseInt10At64
import Derived.Shelf.Strconv.ParseInt10At32
import Derived.Shelf.Strconv.ParseInt10At16
import Derived.Shelf.Strconv.ParseInt10At8
import Derived.Shelf.Strconv.ParseInt10All
import Derived.Shelf.Strconv.ParseIntPublic10
import Derived.Shelf.Strconv.ErrVarParseInt
import Derived.Shelf.Strings.Search1
import Derived.Test.YtfpiibccggjjpaaDoorProg
import Derived.Test.YtfpiibccggjjpaaDoorUn5
/-
  script: wordsOf, its walk.
-/
namespace Go.Proofs.YtfpiibccggjjpaaDoor
open Go.RowKit
set_option linter.unusedVariables false

/-- A word under way: where it began. -/
def WdB (l : List UInt8) (pos b : Nat) (wi : Bool) : Prop := (wdF (l.take pos)).rem = false ∧ (wi = true → (wdF (l.take pos)).cur ≠ [] ∧ pos - (wdF (l.take pos)).cur.length = b) ∧ (wi = false → (wdF (l.take pos)).cur = [])
theorem blank_iff (x : UInt8) : blank x = true ↔ x.toNat = 32 ∨ x.toNat = 9 := by
  have : ∀ n : Fin 256, blank (UInt8.ofNat n.1) = true ↔ n.1 = 32 ∨ n.1 = 9 := by decide +kernel
  have := this ⟨x.toNat, x.toNat_lt⟩
  simpa using this
theorem big_blank (x : UInt8) (h : 128 ≤ x.toNat) : blank x = false := by
  cases hb : blank x with
  | false => rfl
  | true =>
    rcases (blank_iff x).1 hb with e | e <;> omega
set_option maxRecDepth 100000 in
set_option maxHeartbeats 8000000 in
theorem words_any (s : ByteArray) (hs : s.size ≤ 8388608) (w : World) : Calls Tryd.prog 18 #[.string s] w fun e w' => TextsP (wdsD s.data.toList) w e w' := by
  have hsz : s.data.toList.length = s.size := rfl
  go_enter Tryd.func18, Tryd.ntmps18
  go_wp2_with fail
  go_loopg [3, 4, 5] s.size (fun gm v3 v4 v5 wr => ∃ (pos b : Nat) (wi : Bool), gm = s.size - pos ∧ pos ≤ s.size ∧ v4 = .int .i64 (b : Int) ∧ v5 = .bool wi ∧ Hid (WdB s.data.toList pos b wi) ∧ ItS w w.heap.size s pos v3 (wdF (s.data.toList.take pos)).ws wr)
  case atStart => exact ⟨0, 0, false, rfl, Nat.zero_le _, rfl, rfl, ⟨rfl, (fun e => by cases e), fun _ => rfl⟩, by have := World.iter_heap w s 0; simpa using this, ⟨rfl, Or.inl ⟨rfl, rfl⟩⟩, (Keeps.refl _ _).alloc _⟩
  case round =>
    obtain ⟨pos, b, wi, rfl, hi, rfl, rfl, HW, hp⟩ := hrel
    obtain ⟨hc1, hc0, hc2, -⟩ := wdF_cur s.data.toList pos (by omega)
    obtain ⟨hrem, hin, hout⟩ := HW.out
    clear HW
    by_cases hlt : pos < s.size
    · have hi' : (pos : Int) ≤ (s.size : Int) := by omega
      have hltl : pos < s.data.toList.length := hlt
      have hN := fun ty => nextT_any (P := Tryd.prog) ty hp.it hlt
      obtain ⟨d1, d2, d3⟩ := decode_step s pos hlt
      obtain ⟨e32, e1⟩ := decode_ten s pos hlt 32 (by omega)
      obtain ⟨e9, -⟩ := decode_ten s pos hlt 9 (by omega)
      obtain ⟨e35, -⟩ := decode_ten s pos hlt 35 (by omega)
      obtain ⟨r, hr⟩ : ∃ r, (Utf8.decode s pos).1 = r := ⟨_, rfl⟩
      obtain ⟨k, hk⟩ : ∃ k, (Utf8.decode s pos).2 = k := ⟨_, rfl⟩
      rw [hr] at hN e32 e9 e35
      rw [hk] at hN d1 d2 d3 e1
      obtain ⟨x, hx⟩ : ∃ x, s[pos] = x := ⟨_, rfl⟩
      have hxl : s.data.toList[pos]'hltl = x := hx
      rw [hx] at e32 e9 e35 e1
      have hp2 := hp.next (Nat.le_refl _) (pos + k)
      have Hms : Hid (s.size - (pos + k) < s.size - pos) := by show s.size - (pos + k) < s.size - pos; omega
      have Hle : Hid (pos + k ≤ s.size) := d2
      have hstep := wdF_take hltl
      rw [hxl] at hstep
      cases hb : blank x with
      | true =>
        have hb2 := (blank_iff x).1 hb
        have hk1 : k = 1 := e1 (by omega)
        subst hk1
        have hr2 : r = 32 ∨ r = 9 := by
          rcases hb2 with e | e
          · exact Or.inl (e32.2 e)
          · exact Or.inr (e9.2 e)
        cases wi with
        | true =>
          obtain ⟨hcne, hcb⟩ := hin rfl
          have hE : wdF (s.data.toList.take (pos + 1)) = ⟨(wdF (s.data.toList.take pos)).ws ++ [(wdF (s.data.toList.take pos)).cur], [], false⟩ := by rw [hstep, wdS_in_blank hrem hcne hb]
          obtain ⟨g1, c1, w1, hap, hT⟩ := hp2.more (wdF (s.data.toList.take pos)).cur (by omega)
          have e3 : strV (wdF (s.data.toList.take pos)).cur = .string (s.extract b pos) := by rw [extract_eq, ← hcb, ← hc2]; rfl
          rw [e3] at hap
          have HN : Hid (ItS w w.heap.size s (pos + 1) (.slice (some ⟨g1, 0, none⟩) ((wdF (s.data.toList.take pos)).ws.length + 1) c1) (wdF (s.data.toList.take (pos + 1))).ws w1 ∧ WdB s.data.toList (pos + 1) b false) := by
            unfold WdB
            rw [hE]
            exact ⟨hT, rfl, (fun e => by cases e), fun _ => rfl⟩
          have hbp : b ≤ pos := by omega
          have hb0 : (0 : Int) ≤ (b : Int) := by omega
          have hbp' : (b : Int) ≤ (pos : Int) := by omega
          clear hp hp2 hT hE e3 hxl hc0 hc1 hc2 hsz d1 d2 d3 e32 e9 e35 e1 hx hr hk hstep hin hout hrem hcne hcb hb hb2
          generalize (wdF (s.data.toList.take pos)).ws.length = m at *
          generalize wr.putObj w.heap.size (.stringIter s (pos + 1)) = W1 at *
          clear hs hltl
          rcases hr2 with rfl | rfl
          all_goals
            go_wp2_with (first | (at_builtin; have _t := hap; refine app_run _ rfl (.tmp 26) (.tmp 31) 42 rfl rfl rfl hap ?_; clear hap))
            go_roundg (s.size - (pos + 1))
            case measure => exact Hms.out
            case rel => exact ⟨pos + 1, b, false, rfl, Hle.out, rfl, rfl, HN.out.2, HN.out.1⟩
        | false =>
          have hc := hout rfl
          have hE : wdF (s.data.toList.take (pos + 1)) = wdF (s.data.toList.take pos) := by rw [hstep, wdS_out_blank hrem hc hb]
          have HN : Hid (ItS w w.heap.size s (pos + 1) u3 (wdF (s.data.toList.take (pos + 1))).ws (wr.putObj w.heap.size (.stringIter s (pos + 1))) ∧ WdB s.data.toList (pos + 1) b false) := by
            unfold WdB
            rw [hE]
            exact ⟨hp2, hrem, (fun e => by cases e), fun _ => hc⟩
          clear hp hp2 hE hxl hc0 hc1 hc2 hsz d1 d2 d3 e32 e9 e35 e1 hx hr hk hstep hin hout hrem hc hb hb2
          clear hs hltl
          rcases hr2 with rfl | rfl
          all_goals
            go_wp2_with fail
            go_roundg (s.size - (pos + 1))
            case measure => exact Hms.out
            case rel => exact ⟨pos + 1, b, false, rfl, Hle.out, rfl, rfl, HN.out.2, HN.out.1⟩
      | false =>
        have n32 : ¬ r = 32 := fun e => by
          have := (blank_iff x).2 (Or.inl (e32.1 e))
          rw [hb] at this
          cases this
        have n9 : ¬ r = 9 := fun e => by
          have := (blank_iff x).2 (Or.inr (e9.1 e))
          rw [hb] at this
          cases this
        have y32 : ((r : Int) == 32) = false := by
          rw [beq_eq_false_iff_ne]
          omega
        have y9 : ((r : Int) == 9) = false := by
          rw [beq_eq_false_iff_ne]
          omega
        have hbs : ∀ j (h : j < s.data.toList.length), pos ≤ j → j < pos + k → blank (s.data.toList[j]) = false := fun j hj h1 h2 => by
          by_cases hjp : j = pos
          · subst hjp
            rw [hxl]
            exact hb
          · exact big_blank _ (d3 j hj (by omega) h2)
        cases wi with
        | true =>
          obtain ⟨hcne, hcb⟩ := hin rfl
          have hE := wdF_skip hrem (Or.inl hcne) k (by omega) hbs
          have HN : Hid (ItS w w.heap.size s (pos + k) u3 (wdF (s.data.toList.take (pos + k))).ws (wr.putObj w.heap.size (.stringIter s (pos + k))) ∧ WdB s.data.toList (pos + k) b true) := by
            unfold WdB
            rw [hE]
            refine ⟨hp2, rfl, fun _ => ⟨by simp [hcne], ?_⟩, (fun e => by cases e)⟩
            rw [List.length_append, List.length_take, List.length_drop]
            omega
          clear hp hp2 hE hxl hc0 hc1 hc2 hsz d1 d2 d3 e32 e9 e35 e1 hx hr hk hstep hin hout hrem hcne hcb hb hbs n32 n9
          clear hs hltl
          go_wp2_with fail
          go_roundg (s.size - (pos + k))
          case measure => exact Hms.out
          case rel => exact ⟨pos + k, b, true, rfl, Hle.out, rfl, rfl, HN.out.2, HN.out.1⟩
        | false =>
          have hc := hout rfl
          by_cases h35 : x.toNat = 35
          · have hr35 : r = 35 := e35.2 h35
            have hx35 : x = 35 := UInt8.toNat_inj.1 h35
            have hE : wdF (s.data.toList.take (pos + 1)) = ⟨(wdF (s.data.toList.take pos)).ws, [], true⟩ := by rw [hstep, hx35, wdS_out_hash hrem hc]
            have hF := wdF_rem (l := s.data.toList) (i := pos + 1) (by rw [hE])
            have HN : Hid (TextsP (wdsD s.data.toList) w (.returned u3) (wr.putObj w.heap.size (.stringIter s (pos + k)))) := ⟨u3, rfl, by unfold wdsD; rw [hF, hE]; exact hp2.row, hp2.keeps⟩
            subst hr35
            clear hp hp2 hE hxl hc0 hc1 hc2 hsz d1 d2 d3 e32 e9 e35 e1 hx hr hk hstep hin hout hrem hc hb hbs n32 n9 hF h35 hx35
            clear hs hltl
            go_wp2_with fail
            refine bodyPost_ret (v := u3) (by simp [results, Tryd.results18, go_sem]) rfl ?_
            exact HN.out
          · have n35 : ¬ r = 35 := fun e => h35 (e35.1 e)
            have y35 : ((r : Int) == 35) = false := by
              rw [beq_eq_false_iff_ne]
              omega
            have hE := wdF_skip hrem (Or.inr (fun h => by
              rw [hxl]
              intro e
              exact h35 (by rw [e]; rfl))) k (by omega) hbs
            have HN : Hid (ItS w w.heap.size s (pos + k) u3 (wdF (s.data.toList.take (pos + k))).ws (wr.putObj w.heap.size (.stringIter s (pos + k))) ∧ WdB s.data.toList (pos + k) pos true) := by
              have hl : ((s.data.toList.drop pos).take k).length = k := by
                rw [List.length_take, List.length_drop]
                omega
              unfold WdB
              rw [hE, hc, List.nil_append]
              refine ⟨hp2, rfl, fun _ => ⟨fun e => ?_, ?_⟩, (fun e => by cases e)⟩
              · have := congrArg List.length e
                rw [hl] at this
                simp at this
                omega
              · show pos + k - ((s.data.toList.drop pos).take k).length = pos
                rw [hl]
                omega
            clear hp hp2 hE hxl hc0 hc1 hc2 hsz d1 d2 d3 e32 e9 e35 e1 hx hr hk hstep hin hout hrem hc hb hbs n32 n9 h35 n35
            clear hs hltl
            go_wp2_with fail
            go_roundg (s.size - (pos + k))
            case measure => exact Hms.out
            case rel => exact ⟨pos + k, pos, true, rfl, Hle.out, rfl, rfl, HN.out.2, HN.out.1⟩
    · obtain rfl : pos = s.size := by omega
      have hN := fun ty => nextT_end (P := Tryd.prog) ty hp.it hlt
      rw [List.take_of_length_le (Nat.le_of_eq hsz)] at hp hc2 hc1 hc0 hin hout hrem
      cases wi with
      | false =>
        have hc := hout rfl
        have HN : Hid (TextsP (wdsD s.data.toList) w (.returned u3) wr) := ⟨u3, rfl, by unfold wdsD; rw [if_pos hc]; exact hp.row, hp.keeps⟩
        clear hp hc0 hc1 hc2 hsz hin hout hrem hc
        go_wp2_with fail
        refine bodyPost_ret (v := u3) (by simp [results, Tryd.results18, go_sem]) rfl ?_
        exact HN.out
      | true =>
        obtain ⟨hcne, hcb⟩ := hin rfl
        have hbp : b ≤ s.size := by omega
        have hb0 : (0 : Int) ≤ (b : Int) := by omega
        have hbp' : (b : Int) ≤ (s.size : Int) := by omega
        obtain ⟨g1, c1, w1, hap, hT⟩ := hp.more (wdF s.data.toList).cur (by omega)
        have e1 : strV (wdF s.data.toList).cur = .string (s.extract b s.size) := by
          rw [extract_eq, List.take_of_length_le (Nat.le_of_eq hsz), ← hcb, ← hc2]
          rfl
        rw [e1] at hap
        have HN : Hid (TextsP (wdsD s.data.toList) w (.returned (.slice (some ⟨g1, 0, none⟩) ((wdF s.data.toList).ws.length + 1) c1)) w1) := ⟨_, rfl, by unfold wdsD; rw [if_neg hcne]; exact hT.row, hT.keeps⟩
        clear hp hT e1 hc0 hc1 hc2 hsz hin hout hrem hcne hcb
        generalize (wdF s.data.toList).ws.length = m at *
        go_wp2_with (first | (at_builtin; have _t := hap; refine app_run _ rfl (.tmp 50) (.tmp 54) 42 rfl rfl rfl hap ?_; clear hap))
        refine bodyPost_ret (v := .slice (some ⟨g1, 0, none⟩) (m + 1) c1) (by simp [results, Tryd.results18, go_sem]) rfl ?_
        exact HN.out
end Go.Proofs.YtfpiibccggjjpaaDoor
/-
  script: rows of texts that lie somewhere, cut; rows of numbers of one's own.
-/
namespace Go.Proofs.YtfpiibccggjjpaaDoor
open Go.RowKit
set_option linter.unusedVariables false

/-- A row of texts that lies somewhere. -/
def StrsIn (w : World) (v : Value) (ws : List (List UInt8)) : Prop := ∃ b o c, v = .slice (some ⟨b, o, none⟩) ws.length c ∧ ws.length ≤ c ∧ ∀ j (hj : j < ws.length), w.cell? ⟨b, o + j, none⟩ = some (strV ws[j])
theorem StrsIn.keeps {w w' : World} {v : Value} {ws : List (List UInt8)} (h : StrsIn w v ws) (k : Keeps w w' (fun _ => False)) : StrsIn w' v ws := by
  obtain ⟨b, o, c, e, hc, hw⟩ := h
  exact ⟨b, o, c, e, hc, fun j hj => keeps_cell k (hw j hj)⟩
theorem TextsO.strs {lo : Nat} {w : World} {r : Value} {ws : List (List UInt8)} (h : TextsO lo w r ws) (h0 : 0 < ws.length) : StrsIn w r ws := by
  have h1 := h
  rcases h.2 with ⟨-, e0⟩ | ⟨g, cap, cur, rfl, -, -, hcap, -⟩
  · omega
  · refine ⟨g, 0, cap, rfl, hcap, fun j hj => ?_⟩
    have := h1.cellAt j (by omega)
    rw [Nat.zero_add, this]
    simp
    exact ⟨ws[j], List.getElem?_eq_getElem hj, rfl⟩
/-- A cut of a row of texts. -/
theorem cut_strs {w : World} {b o n c : Nat} {ws : List (List UInt8)} (h : StrsIn w (.slice (some ⟨b, o, none⟩) n c) ws) (k : Nat) (hk : k ≤ ws.length) :
    ∃ v, (∀ W, (Instr.slice 42 (.slice (some ⟨b, o, none⟩) n c) (some (.int .i64 (k : Int))) none none).run Tryd.prog W = .ok v W) ∧ StrsIn w v (ws.drop k) := by
  obtain ⟨b', o', c', e, hc, hw⟩ := h
  injection e with e1 e2 e3
  injection e1 with e1
  injection e1 with e4 e5
  subst e4 e5 e2 e3
  have ht' : Tryd.prog.underlying 42 = some (.slice (Tryd.prog.elem 42)) := by simp [Program.elem, Tryd.underlying42]
  have he : Tryd.prog.elem 42 = 9 := by simp [Program.elem, Tryd.underlying42]
  obtain ⟨i, h1, h2, h3, h4⟩ := info_parts Tryd.infoT
  have hsz : ∀ W, (Go.sizeOf 9).run Tryd.prog W = .ok 1 W := fun W => by simp [Go.sizeOf, typeInfo, h1, h3]
  have e : ((k : Int)).toNat = k := by omega
  by_cases hkc : c = k
  · have e0 : ws.length - k = 0 := by omega
    refine ⟨.slice (some ⟨b, o, none⟩) 0 0, fun W => ?_, b, o, 0, by rw [List.length_drop, e0], by rw [List.length_drop]; omega, fun j hj => by rw [List.length_drop] at hj; omega⟩
    rw [run_slice_l W _ _ _ _ ht' .i64 _ (by omega) (by omega), he, hsz]
    simp [Result.andThen, sliced, e, hkc]
    omega
  · refine ⟨.slice (some ⟨b, o + k, none⟩) (ws.length - k) (c - k), fun W => ?_, b, o + k, c - k, by rw [List.length_drop], by rw [List.length_drop]; omega, fun j hj => ?_⟩
    · rw [run_slice_l W _ _ _ _ ht' .i64 _ (by omega) (by omega), he, hsz]
      simp [Result.andThen, sliced, Addr.add, e, hkc]
    · have := hw (k + j) (by rw [List.length_drop] at hj; omega)
      rw [Nat.add_assoc, this, List.getElem_drop]
/-- A list of numbers of one's own. -/
def IntsO (lo : Nat) (w : World) (r : Value) (l : List Int) : Prop := w.ownsRow lo 3 1 r l.length (l.map cellI)
theorem IntsO.more {lo : Nat} {w : World} {r : Value} {ls : List Int} (h : IntsO lo w r ls) (x : Int) (hn : ls.length ≤ 8388608) (hlo : lo ≤ w.heap.size) :
    ∃ g c w', (∀ ty, (Builtin.append_ #[30, 30] ty #[r, .slice (some ⟨w.heap.size, 0, none⟩) 1 1]).run Tryd.prog (w.alloc (.cells #[.int .i64 x] 3)) = .ok (.slice (some ⟨g, 0, none⟩) (ls.length + 1) c) w') ∧ IntsO lo w' (.slice (some ⟨g, 0, none⟩) (ls.length + 1) c) (ls ++ [x]) ∧ Keeps w w' (fun k => r.ownBlock = some k) := by
  obtain ⟨g, c, w', h1, h2, h3, -⟩ := append_one (P := Tryd.prog) 30 3 (.int .i64 0) 8 Tryd.underlying30 Tryd.infoI rfl (World.ownsRow.alloc h (.cells #[.int .i64 x] 3)) (heap_alloc_new w (.cells #[.int .i64 x] 3)) rfl (by omega) (by simp only [maxLen]; omega) (by rw [World.size_alloc]; omega)
  refine ⟨g, c, w', h1, ?_, (((Keeps.refl w (fun k => r.ownBlock = some k)).alloc _)).trans h3 (fun _ _ e => e)⟩
  unfold IntsO
  rw [List.length_append, List.map_append]
  exact h2
theorem IntsO.keeps {lo : Nat} {w w' : World} {r : Value} {ls : List Int} (h : IntsO lo w r ls) (k : Keeps w w' (fun _ => False)) : IntsO lo w' r ls := ownsRow_keeps h k (fun _ _ e => e)
/-- What numbers answers. -/
def NumsP (R : List Int × Int) (w : World) (e : Ending) (w' : World) : Prop := ∃ r, e = .returned (.tuple #[r, .int .i64 R.2]) ∧ (∃ so n c, r = .slice so n c) ∧ IntsO w.heap.size w' r R.1 ∧ Keeps w w' (fun _ => False)
theorem numsE_step (fs : List (List UInt8)) : ∀ i, i < fs.length → (numE (fs.getD i [])).2 = 0 → (numsE (fs.drop i)) = if (numsE (fs.drop (i + 1))).2 = 0 then ((numE (fs.getD i [])).1 :: (numsE (fs.drop (i + 1))).1, 0) else ([], (numsE (fs.drop (i + 1))).2) := by
  intro i hi h0
  have e : fs.getD i [] = fs[i] := by simp [List.getD, List.getElem?_eq_getElem hi]
  rw [List.drop_eq_getElem_cons hi, numsE]
  rw [e] at h0 ⊢
  rw [if_pos h0]
theorem numsE_bad (fs : List (List UInt8)) : ∀ i, i < fs.length → (numE (fs.getD i [])).2 ≠ 0 → numsE (fs.drop i) = ([], (numE (fs.getD i [])).2) := by
  intro i hi h0
  have e : fs.getD i [] = fs[i] := by simp [List.getD, List.getElem?_eq_getElem hi]
  rw [List.drop_eq_getElem_cons hi, numsE]
  rw [e] at h0 ⊢
  rw [if_neg h0]
set_option maxRecDepth 100000 in
set_option maxHeartbeats 4000000 in
theorem numbers_any (v : Value) (fs : List (List UInt8)) (w : World) (hv : StrsIn w v fs) (hz : ∀ x, x ∈ fs → x.length ≤ 8388608) (hl : fs.length ≤ 8388608) (he : ErrW w) : Calls Tryd.prog 47 #[v] w fun e w' => NumsP (numsE fs) w e w' := by
  obtain ⟨b, o, c, rfl, hc, hw⟩ := hv
  have HN := hide (fun (i : Nat) (hi : i < fs.length) (W : World) (k : Keeps w W (fun _ => False)) => number_exact (strOf fs[i]) (by rw [strOf_size]; exact hz _ (List.getElem_mem hi)) W (he.keeps k))
  have HW := hide hw
  clear hw he hz
  go_enter Tryd.func47, Tryd.ntmps47
  go_wp2_with fail
  go_loopw [4, 11] (fun v4 v11 wr => ∃ i : Nat, v11 = .int .i64 (i : Int) ∧ i ≤ fs.length ∧ ∃ l so n c, v4 = .slice so n c ∧ IntsO w.heap.size wr v4 l ∧ l.length = i ∧ Hid (numsE fs = if (numsE (fs.drop i)).2 = 0 then (l ++ (numsE (fs.drop i)).1, 0) else ([], (numsE (fs.drop i)).2)) ∧ Keeps w wr (fun _ => False)) (fun _ v11 _ => fs.length - (intOf v11).toNat)
  case atStart =>
    refine ⟨0, rfl, Nat.zero_le _, [], none, 0, 0, rfl, ⟨rfl, Or.inl ⟨rfl, rfl⟩⟩, rfl, ?_, Keeps.refl _ _⟩
    show numsE fs = _
    rw [List.drop_zero]
    cases fs with
    | nil => rfl
    | cons x t =>
      rw [numsE]
      split
      · split
        · rfl
        · rfl
      · rfl
  case round =>
    obtain ⟨i, rfl, hi, l, so, n, c2, rfl, hO, hll, HE, K⟩ := hrel
    by_cases hlt : i < fs.length
    · have hlt' : (i : Int) < (fs.length : Int) := by omega
      have h0' : (0 : Int) ≤ (i : Int) := by omega
      have q1 := keeps_cell K (HW.out i hlt)
      have hcall := HN.out i hlt wr K
      have hg : fs.getD i [] = fs[i] := by simp [List.getD, List.getElem?_eq_getElem hlt]
      have hS := numsE_step fs i hlt
      have hB := numsE_bad fs i hlt
      rw [hg] at hS hB
      generalize hx : fs[i] = x at *
      have HSB := hide (And.intro hS hB)
      have Hms : Hid (fs.length - (i + 1) < fs.length - i) := by show fs.length - (i + 1) < fs.length - i; omega
      unfold strV at q1
      rw [strOf_data] at hcall
      have HO := hide hO
      have HK := hide K
      have Hll := hide hll
      clear hS hB hg hx hO K hll
      go_wp2_with fail
      (with_reducible refine hcall.mono ?_)
      rintro e w1 ⟨rfl, k1⟩
      have HK1 := hide (HK.out.trans k1 (fun _ _ e => e))
      have HO1 := hide (HO.out.keeps k1)
      clear hcall k1 q1 HK HO
      by_cases hz : (numE x).2 = 0
      · have e1 := HSB.out.1 hz
        obtain ⟨g1, c1, W2, hap, hT, kk⟩ := HO1.out.more (numE x).1 (by rw [Hll.out]; omega) HK1.out.size
        have HF : Hid (IntsO w.heap.size W2 (.slice (some ⟨g1, 0, none⟩) (l.length + 1) c1) (l ++ [(numE x).1]) ∧ (l ++ [(numE x).1]).length = i + 1 ∧ (numsE fs = if (numsE (fs.drop (i + 1))).2 = 0 then (l ++ [(numE x).1] ++ (numsE (fs.drop (i + 1))).1, 0) else ([], (numsE (fs.drop (i + 1))).2)) ∧ Keeps w W2 (fun _ => False)) := by
          refine ⟨hT, by rw [List.length_append, Hll.out]; rfl, ?_, HK1.out.trans kk (fun q hq e => by
            have := (ownsRow_block HO1.out e).1
            omega)⟩
          rw [HE.out, e1]
          by_cases h2 : (numsE (fs.drop (i + 1))).2 = 0
          · rw [if_pos h2, if_pos h2, if_pos rfl]
            simp
          · rw [if_neg h2, if_neg h2, if_neg h2]
        have hz2 : ((numE x).2 != 0) = false := by simp [hz]
        have hwr := hide (wr64s (n := i) (by omega))
        clear e1 hT kk HO1 HK1 HSB HE
        generalize (numE x).1 = N1 at *
        generalize (numE x).2 = N2 at *
        subst hz
        generalize l.length = m at *
        clear Hll
        obtain ⟨a6, a7⟩ := hwr.out
        go_wp2_with (first | (at_builtin; have _t := hap; refine app_run _ rfl (.tmp 23) (.tmp 25) 30 rfl rfl rfl hap ?_; clear hap))
        go_roundw
        case rel => exact ⟨i + 1, by go_num, hlt, l ++ [N1], _, _, _, rfl, HF.out⟩
        case measure => simp [intOf]; exact Hms.out
      · have e1 := HSB.out.2 hz
        have HF : Hid (NumsP (numsE fs) w (.returned (.tuple #[.slice none 0 0, .int .i64 (numE x).2])) w1) := by
          rw [show numsE fs = ([], (numE x).2) by rw [HE.out, e1, if_neg hz]]
          exact ⟨_, rfl, ⟨none, 0, 0, rfl⟩, ⟨rfl, Or.inl ⟨rfl, rfl⟩⟩, HK1.out⟩
        have hz2 : ((numE x).2 != 0) = true := by simpa using hz
        clear e1 HO1 HK1 HSB HE Hll hz
        generalize (numE x).1 = N1 at *
        generalize (numE x).2 = N2 at *
        go_wp2_with fail
        refine bodyPost_ret (v := .tuple #[.slice none 0 0, .int .i64 N2]) (by simp [results, Tryd.results47, go_sem]) rfl ?_
        exact HF.out
    · obtain rfl : i = fs.length := by omega
      have hlt' : ¬ (fs.length : Int) < (fs.length : Int) := by omega
      have HF : Hid (NumsP (numsE fs) w (.returned (.tuple #[.slice so n c2, .int .i64 0])) wr) := by
        have e := HE.out
        rw [List.drop_length] at e
        have e2 : numsE fs = (l, 0) := by
          rw [e]
          simp [numsE]
        rw [e2]
        exact ⟨_, rfl, ⟨_, _, _, rfl⟩, hO, K⟩
      clear hO K HE hll
      go_wp2_with fail
      refine bodyPost_ret (v := .tuple #[.slice so n c2, .int .i64 0]) (by simp [results, Tryd.results47, go_sem]) rfl ?_
      exact HF.out
end Go.Proofs.YtfpiibccggjjpaaDoor
/-
  script: readField.
-/
namespace Go.Proofs.YtfpiibccggjjpaaDoor
open Go.RowKit
set_option linter.unusedVariables false

theorem own_ne2 {W : World} {base : Nat} {e t : TypeId} {size : Nat} {v : Value} {n : Nat} {xs : List Value} (h : W.ownsRow base e size v n xs) {N : Nat} {cs : Array Value} {fz : Nat × Nat} (hN : W.heap[N]? = some (.cells cs t fz)) (hne : t ≠ e) : ∀ g, v.ownBlock = some g → ¬ g = N := fun g hg e1 => by
  subst e1
  obtain ⟨-, cur, hc⟩ := ownsRow_block h hg
  rw [hc] at hN
  injection hN with hN
  injection hN with _ e2 _
  exact hne e2.symm
theorem setB {W : World} {B : Nat} {cs : Array Value} {t : TypeId} (h : W.heap[B]? = some (.cells cs t)) (k : Nat) (a : Value) : (W.setCell ⟨B, k, none⟩ a).heap[B]? = some (.cells (cs.setIfInBounds k a) t) := by
  simp [World.setCell, Array.getElem?_modify, h]
/-- A command under way: its block, its two lists of one's own. -/
structure CmdO (lo B : Nat) (c : CmdD) (fv hv : Value) (w : World) : Prop where
  box : w.heap[B]? = some (.cells (c.vals fv hv) 33)
  f : IntsO lo w fv c.fl
  s : IntsO lo w hv c.hl
  ap : ∀ g, fv.ownBlock = some g → ¬ hv.ownBlock = some g
theorem IntsO.form {lo : Nat} {w : World} {v : Value} {l : List Int} (h : IntsO lo w v l) : ∃ so c, v = .slice so l.length c := by
  rcases h.2 with ⟨rfl, e⟩ | ⟨g, cap, cur, rfl, -⟩
  · rw [e]; exact ⟨none, 0, rfl⟩
  · exact ⟨_, cap, rfl⟩
theorem CmdO.keeps {lo B : Nat} {c : CmdD} {fv hv : Value} {w w' : World} (h : CmdO lo B c fv hv w) (k : Keeps w w' (fun _ => False)) : CmdO lo B c fv hv w' := ⟨(k.block B (heap_lt h.box) id).trans h.box, h.f.keeps k, h.s.keeps k, h.ap⟩
theorem keepsB {W : World} {B : Nat} (k : Nat) (a : Value) : Keeps W (W.setCell ⟨B, k, none⟩ a) (fun x => x = B) := (Keeps.refl W (fun x => x = B)).setCell ⟨B, k, none⟩ (fun _ => rfl) a
theorem ints_ne : ¬ (33 : TypeId) = 3 := by decide
theorem CmdO.set {lo B : Nat} {c : CmdD} {fv hv : Value} {w : World} (h : CmdO lo B c fv hv w) (k : Nat) (a : Value) {c2 : CmdD} (e : (c.vals fv hv).setIfInBounds k a = c2.vals fv hv) (e1 : c2.fl = c.fl) (e2 : c2.hl = c.hl) : CmdO lo B c2 fv hv (w.setCell ⟨B, k, none⟩ a) := by
  refine ⟨?_, ?_, ?_, h.ap⟩
  · rw [← e]
    exact setB h.box k a
  · rw [e1]
    exact ownsRow_keeps h.f (keepsB k a) (own_ne2 h.f h.box ints_ne)
  · rw [e2]
    exact ownsRow_keeps h.s (keepsB k a) (own_ne2 h.s h.box ints_ne)
theorem CmdO.setF {lo B : Nat} {c : CmdD} {fv hv : Value} {w : World} (h : CmdO lo B c fv hv w) {v : Value} {l : List Int} (hl : IntsO lo w v l) (hap : ∀ g, v.ownBlock = some g → ¬ hv.ownBlock = some g) : CmdO lo B { c with fl := l } v hv (w.setCell ⟨B, 2, none⟩ v) :=
  ⟨setB h.box 2 v, ownsRow_keeps hl (keepsB 2 v) (own_ne2 hl h.box ints_ne), ownsRow_keeps h.s (keepsB 2 v) (own_ne2 h.s h.box ints_ne), hap⟩
theorem CmdO.setS {lo B : Nat} {c : CmdD} {fv hv : Value} {w : World} (h : CmdO lo B c fv hv w) {v : Value} {l : List Int} (hl : IntsO lo w v l) (hap : ∀ g, fv.ownBlock = some g → ¬ v.ownBlock = some g) : CmdO lo B { c with hl := l } fv v (w.setCell ⟨B, 3, none⟩ v) :=
  ⟨setB h.box 3 v, ownsRow_keeps h.f (keepsB 3 v) (own_ne2 h.f h.box ints_ne), ownsRow_keeps hl (keepsB 3 v) (own_ne2 hl h.box ints_ne), hap⟩
theorem cells9 {W : World} {q : Nat} {c : CmdD} {fs hs : Value} {t : TypeId} (h : W.heap[q]? = some (.cells (c.vals fs hs) t)) : (∃ v, W.cell? ⟨q, 1, none⟩ = some v) ∧ (∃ v, W.cell? ⟨q, 2, none⟩ = some v) ∧ (∃ v, W.cell? ⟨q, 3, none⟩ = some v) ∧ (∃ v, W.cell? ⟨q, 4, none⟩ = some v) ∧ (∃ v, W.cell? ⟨q, 5, none⟩ = some v) ∧ (∃ v, W.cell? ⟨q, 6, none⟩ = some v) ∧ (∃ v, W.cell? ⟨q, 7, none⟩ = some v) ∧ (∃ v, W.cell? ⟨q, 8, none⟩ = some v) := by
  simp [World.cell?, h, CmdD.vals]
theorem froB {W : World} {N : Nat} {cs : Array Value} {t : TypeId} (h : W.heap[N]? = some (.cells cs t)) (j : Nat) : W.frozen? ⟨N, j, none⟩ = false := by
  simp [World.frozen?, h]
/-- A list that is made later lies in another block. -/
theorem new_old {w w1 : World} {lo : Nat} {v u : Value} {l l2 : List Int} (hn : IntsO w.heap.size w1 v l) (ho : IntsO lo w u l2) {g : Nat} (h1 : v.ownBlock = some g) (h2 : u.ownBlock = some g) : False := by
  have a := (ownsRow_block hn h1).1
  obtain ⟨-, cur, hc⟩ := ownsRow_block ho h2
  have := heap_lt hc
  omega
/-- What readField leaves. -/
def RdP (lo B : Nat) (R : CmdD × Int) (w : World) (e : Ending) (w' : World) : Prop := ∃ fv hv, e = .returned (.int .i64 R.2) ∧ CmdO lo B R.1 fv hv w' ∧ Keeps w w' (fun k => k = B)
theorem str_first {w : World} {v : Value} {fs : List (List UInt8)} (h : StrsIn w v fs) (h0 : 0 < fs.length) : ∃ b o n c, v = .slice (some ⟨b, o, none⟩) (n + 1) c ∧ w.cell? ⟨b, o, none⟩ = some (.string (strOf (fs.headD []))) := by
  obtain ⟨b, o, c, rfl, -, hw⟩ := h
  cases fs with
  | nil => simp at h0
  | cons x t => exact ⟨b, o, t.length, c, rfl, hw 0 (by simp)⟩
theorem ownsRow_low2 {w : World} {b1 b2 : Nat} {e : TypeId} {size : Nat} {v : Value} {n : Nat} {xs : List Value} (h : w.ownsRow b1 e size v n xs) (hb : b2 ≤ b1) : w.ownsRow b2 e size v n xs := by
  refine ⟨h.1, ?_⟩
  rcases h.2 with h2 | ⟨g, cap, cur, e1, e2, r⟩
  · exact Or.inl h2
  · exact Or.inr ⟨g, cap, cur, e1, Nat.le_trans hb e2, r⟩
set_option maxRecDepth 100000 in
set_option maxHeartbeats 4000000 in
theorem rd_72 (lo B : Nat) (c : CmdD) (fv hv v : Value) (fs : List (List UInt8)) (w : World) (hB : CmdO lo B c fv hv w) (hv2 : StrsIn w v fs) (h0 : 0 < fs.length) (hz : ∀ x, x ∈ fs → x.length ≤ 8388608) (he : ErrW w) : Calls Tryd.prog 32 #[.pointer (some ⟨B, 0, none⟩), .int .i32 72, v] w fun e w' => RdP lo B (rdF c 72 fs) w e w' := by
  obtain ⟨b, o, n, cc, rfl, q1⟩ := str_first hv2 h0
  have hfz : (fs.headD []).length ≤ 8388608 := by
    cases fs with
    | nil => simp at h0
    | cons x t => exact hz x List.mem_cons_self
  have hcall := number_exact (strOf (fs.headD [])) (by rw [strOf_size]; exact hfz) w he
  rw [show rdF c 72 fs = ({ c with h := (numE (fs.headD [])).1 }, (numE (fs.headD [])).2) from rfl]
  rw [strOf_data] at hcall
  have HO := hide hB
  generalize fs.headD [] = x at *
  generalize hX : numE x = X at *
  obtain ⟨x1, x2⟩ := X
  clear hv2 h0 hz he hfz hX
  have Hb := hide (heap_lt hB.box)
  clear hB
  go_enter Tryd.func32, Tryd.ntmps32
  go_wp2_with fail
  (with_reducible refine hcall.mono ?_)
  rintro e w1 ⟨rfl, k1⟩
  have HO1 := hide (HO.out.keeps k1)
  obtain ⟨⟨v1, d1⟩, ⟨v2, d2⟩, ⟨v3, d3⟩, ⟨v4, d4⟩, ⟨v5, d5⟩, ⟨v6, d6⟩, ⟨v7, d7⟩, ⟨v8, d8⟩⟩ := cells9 HO1.out.box
  have fz := froB HO1.out.box 1
  have HF : Hid (RdP lo B ({ c with h := x1 }, x2) w (.returned (.int .i64 x2)) (w1.setCell ⟨B, 1, none⟩ (.int .i64 x1))) :=
    ⟨fv, hv, rfl, HO1.out.set 1 _ (c2 := { c with h := x1 }) rfl rfl rfl, ((show Keeps w w1 (fun k => k = B) from ⟨k1.os, k1.tape, k1.output, k1.size, fun k hk _ => k1.block k hk id⟩)).setCell ⟨B, 1, none⟩ (fun _ => rfl) _⟩
  clear hcall k1 q1 HO HO1
  go_wp2_with fail
  refine bodyPost_ret (v := .int .i64 x2) (by simp [results, Tryd.results32, go_sem]) rfl ?_
  exact HF.out
set_option maxRecDepth 100000 in
set_option maxHeartbeats 4000000 in
theorem rd_78 (lo B : Nat) (c : CmdD) (fv hv v : Value) (fs : List (List UInt8)) (w : World) (hB : CmdO lo B c fv hv w) (hv2 : StrsIn w v fs) (h0 : 0 < fs.length) (hz : ∀ x, x ∈ fs → x.length ≤ 8388608) (he : ErrW w) : Calls Tryd.prog 32 #[.pointer (some ⟨B, 0, none⟩), .int .i32 78, v] w fun e w' => RdP lo B (rdF c 78 fs) w e w' := by
  obtain ⟨b, o, n, cc, rfl, q1⟩ := str_first hv2 h0
  have hfz : (fs.headD []).length ≤ 8388608 := by
    cases fs with
    | nil => simp at h0
    | cons x t => exact hz x List.mem_cons_self
  have hcall := number_exact (strOf (fs.headD [])) (by rw [strOf_size]; exact hfz) w he
  rw [show rdF c 78 fs = ({ c with n := (numE (fs.headD [])).1 }, (numE (fs.headD [])).2) from rfl]
  rw [strOf_data] at hcall
  have HO := hide hB
  generalize fs.headD [] = x at *
  generalize hX : numE x = X at *
  obtain ⟨x1, x2⟩ := X
  clear hv2 h0 hz he hfz hX
  have Hb := hide (heap_lt hB.box)
  clear hB
  go_enter Tryd.func32, Tryd.ntmps32
  go_wp2_with fail
  (with_reducible refine hcall.mono ?_)
  rintro e w1 ⟨rfl, k1⟩
  have HO1 := hide (HO.out.keeps k1)
  obtain ⟨⟨v1, d1⟩, ⟨v2, d2⟩, ⟨v3, d3⟩, ⟨v4, d4⟩, ⟨v5, d5⟩, ⟨v6, d6⟩, ⟨v7, d7⟩, ⟨v8, d8⟩⟩ := cells9 HO1.out.box
  have fz := froB HO1.out.box 6
  have HF : Hid (RdP lo B ({ c with n := x1 }, x2) w (.returned (.int .i64 x2)) (w1.setCell ⟨B, 6, none⟩ (.int .i64 x1))) :=
    ⟨fv, hv, rfl, HO1.out.set 6 _ (c2 := { c with n := x1 }) rfl rfl rfl, ((show Keeps w w1 (fun k => k = B) from ⟨k1.os, k1.tape, k1.output, k1.size, fun k hk _ => k1.block k hk id⟩)).setCell ⟨B, 6, none⟩ (fun _ => rfl) _⟩
  clear hcall k1 q1 HO HO1
  go_wp2_with fail
  refine bodyPost_ret (v := .int .i64 x2) (by simp [results, Tryd.results32, go_sem]) rfl ?_
  exact HF.out
set_option maxRecDepth 100000 in
set_option maxHeartbeats 4000000 in
theorem rd_85 (lo B : Nat) (c : CmdD) (fv hv v : Value) (fs : List (List UInt8)) (w : World) (hB : CmdO lo B c fv hv w) (hv2 : StrsIn w v fs) (h0 : 0 < fs.length) (hz : ∀ x, x ∈ fs → x.length ≤ 8388608) (he : ErrW w) : Calls Tryd.prog 32 #[.pointer (some ⟨B, 0, none⟩), .int .i32 85, v] w fun e w' => RdP lo B (rdF c 85 fs) w e w' := by
  obtain ⟨b, o, n, cc, rfl, q1⟩ := str_first hv2 h0
  have hfz : (fs.headD []).length ≤ 8388608 := by
    cases fs with
    | nil => simp at h0
    | cons x t => exact hz x List.mem_cons_self
  have hcall := word_exact (strOf (fs.headD [])) (by rw [strOf_size]; exact hfz) w he
  rw [show rdF c 85 fs = ({ c with u := (wrdE (fs.headD [])).1 }, (wrdE (fs.headD [])).2) from rfl]
  rw [strOf_data] at hcall
  have HO := hide hB
  generalize fs.headD [] = x at *
  generalize hX : wrdE x = X at *
  obtain ⟨x1, x2⟩ := X
  clear hv2 h0 hz he hfz hX
  have Hb := hide (heap_lt hB.box)
  clear hB
  go_enter Tryd.func32, Tryd.ntmps32
  go_wp2_with fail
  (with_reducible refine hcall.mono ?_)
  rintro e w1 ⟨rfl, k1⟩
  have HO1 := hide (HO.out.keeps k1)
  obtain ⟨⟨v1, d1⟩, ⟨v2, d2⟩, ⟨v3, d3⟩, ⟨v4, d4⟩, ⟨v5, d5⟩, ⟨v6, d6⟩, ⟨v7, d7⟩, ⟨v8, d8⟩⟩ := cells9 HO1.out.box
  have fz := froB HO1.out.box 4
  have HF : Hid (RdP lo B ({ c with u := x1 }, x2) w (.returned (.int .i64 x2)) (w1.setCell ⟨B, 4, none⟩ (.int .u64 (x1 : Int)))) :=
    ⟨fv, hv, rfl, HO1.out.set 4 _ (c2 := { c with u := x1 }) rfl rfl rfl, ((show Keeps w w1 (fun k => k = B) from ⟨k1.os, k1.tape, k1.output, k1.size, fun k hk _ => k1.block k hk id⟩)).setCell ⟨B, 4, none⟩ (fun _ => rfl) _⟩
  clear hcall k1 q1 HO HO1
  go_wp2_with fail
  refine bodyPost_ret (v := .int .i64 x2) (by simp [results, Tryd.results32, go_sem]) rfl ?_
  exact HF.out
set_option maxRecDepth 100000 in
set_option maxHeartbeats 4000000 in
theorem rd_86 (lo B : Nat) (c : CmdD) (fv hv v : Value) (fs : List (List UInt8)) (w : World) (hB : CmdO lo B c fv hv w) (hv2 : StrsIn w v fs) (h0 : 0 < fs.length) (hz : ∀ x, x ∈ fs → x.length ≤ 8388608) (he : ErrW w) : Calls Tryd.prog 32 #[.pointer (some ⟨B, 0, none⟩), .int .i32 86, v] w fun e w' => RdP lo B (rdF c 86 fs) w e w' := by
  obtain ⟨b, o, n, cc, rfl, q1⟩ := str_first hv2 h0
  have hfz : (fs.headD []).length ≤ 8388608 := by
    cases fs with
    | nil => simp at h0
    | cons x t => exact hz x List.mem_cons_self
  have hcall := word_exact (strOf (fs.headD [])) (by rw [strOf_size]; exact hfz) w he
  rw [show rdF c 86 fs = ({ c with v := (wrdE (fs.headD [])).1 }, (wrdE (fs.headD [])).2) from rfl]
  rw [strOf_data] at hcall
  have HO := hide hB
  generalize fs.headD [] = x at *
  generalize hX : wrdE x = X at *
  obtain ⟨x1, x2⟩ := X
  clear hv2 h0 hz he hfz hX
  have Hb := hide (heap_lt hB.box)
  clear hB
  go_enter Tryd.func32, Tryd.ntmps32
  go_wp2_with fail
  (with_reducible refine hcall.mono ?_)
  rintro e w1 ⟨rfl, k1⟩
  have HO1 := hide (HO.out.keeps k1)
  obtain ⟨⟨v1, d1⟩, ⟨v2, d2⟩, ⟨v3, d3⟩, ⟨v4, d4⟩, ⟨v5, d5⟩, ⟨v6, d6⟩, ⟨v7, d7⟩, ⟨v8, d8⟩⟩ := cells9 HO1.out.box
  have fz := froB HO1.out.box 5
  have HF : Hid (RdP lo B ({ c with v := x1 }, x2) w (.returned (.int .i64 x2)) (w1.setCell ⟨B, 5, none⟩ (.int .u64 (x1 : Int)))) :=
    ⟨fv, hv, rfl, HO1.out.set 5 _ (c2 := { c with v := x1 }) rfl rfl rfl, ((show Keeps w w1 (fun k => k = B) from ⟨k1.os, k1.tape, k1.output, k1.size, fun k hk _ => k1.block k hk id⟩)).setCell ⟨B, 5, none⟩ (fun _ => rfl) _⟩
  clear hcall k1 q1 HO HO1
  go_wp2_with fail
  refine bodyPost_ret (v := .int .i64 x2) (by simp [results, Tryd.results32, go_sem]) rfl ?_
  exact HF.out
set_option maxRecDepth 100000 in
set_option maxHeartbeats 4000000 in
theorem rd_75 (lo B : Nat) (c : CmdD) (fv hv v : Value) (fs : List (List UInt8)) (w : World) (hB : CmdO lo B c fv hv w) (hv2 : StrsIn w v fs) (h0 : 0 < fs.length) (hz : ∀ x, x ∈ fs → x.length ≤ 8388608) (he : ErrW w) : Calls Tryd.prog 32 #[.pointer (some ⟨B, 0, none⟩), .int .i32 75, v] w fun e w' => RdP lo B (rdF c 75 fs) w e w' := by
  obtain ⟨b, o, n, cc, rfl, q1⟩ := str_first hv2 h0
  have hfz : (fs.headD []).length ≤ 8388608 := by
    cases fs with
    | nil => simp at h0
    | cons x t => exact hz x List.mem_cons_self
  have hcall := bytes_any (strOf (fs.headD [])) (by rw [strOf_size]; exact hfz) w
  rw [show rdF c 75 fs = ({ c with key := (bytE (fs.headD [])).1 }, (bytE (fs.headD [])).2) from rfl]
  rw [show bytD (strOf (fs.headD [])) = bytE (fs.headD []) from rfl] at hcall
  have HO := hide hB
  generalize fs.headD [] = x at *
  generalize hX : bytE x = X at *
  obtain ⟨x1, x2⟩ := X
  clear hv2 h0 hz he hfz hX
  have Hb := hide (heap_lt hB.box)
  clear hB
  go_enter Tryd.func32, Tryd.ntmps32
  go_wp2_with fail
  (with_reducible refine hcall.mono ?_)
  rintro e w1 ⟨rfl, k1⟩
  have HO1 := hide (HO.out.keeps k1)
  obtain ⟨⟨v1, d1⟩, ⟨v2, d2⟩, ⟨v3, d3⟩, ⟨v4, d4⟩, ⟨v5, d5⟩, ⟨v6, d6⟩, ⟨v7, d7⟩, ⟨v8, d8⟩⟩ := cells9 HO1.out.box
  have fz := froB HO1.out.box 7
  have HF : Hid (RdP lo B ({ c with key := x1 }, x2) w (.returned (.int .i64 x2)) (w1.setCell ⟨B, 7, none⟩ (.string x1))) :=
    ⟨fv, hv, rfl, HO1.out.set 7 _ (c2 := { c with key := x1 }) rfl rfl rfl, ((show Keeps w w1 (fun k => k = B) from ⟨k1.os, k1.tape, k1.output, k1.size, fun k hk _ => k1.block k hk id⟩)).setCell ⟨B, 7, none⟩ (fun _ => rfl) _⟩
  clear hcall k1 q1 HO HO1
  go_wp2_with fail
  refine bodyPost_ret (v := .int .i64 x2) (by simp [results, Tryd.results32, go_sem]) rfl ?_
  exact HF.out
set_option maxRecDepth 100000 in
set_option maxHeartbeats 4000000 in
theorem rd_69 (lo B : Nat) (c : CmdD) (fv hv v : Value) (fs : List (List UInt8)) (w : World) (hB : CmdO lo B c fv hv w) (hv2 : StrsIn w v fs) (h0 : 0 < fs.length) (hz : ∀ x, x ∈ fs → x.length ≤ 8388608) (he : ErrW w) : Calls Tryd.prog 32 #[.pointer (some ⟨B, 0, none⟩), .int .i32 69, v] w fun e w' => RdP lo B (rdF c 69 fs) w e w' := by
  obtain ⟨b, o, n, cc, rfl, q1⟩ := str_first hv2 h0
  have hfz : (fs.headD []).length ≤ 8388608 := by
    cases fs with
    | nil => simp at h0
    | cons x t => exact hz x List.mem_cons_self
  have hcall := bytes_any (strOf (fs.headD [])) (by rw [strOf_size]; exact hfz) w
  rw [show rdF c 69 fs = ({ c with elem := (bytE (fs.headD [])).1 }, (bytE (fs.headD [])).2) from rfl]
  rw [show bytD (strOf (fs.headD [])) = bytE (fs.headD []) from rfl] at hcall
  have HO := hide hB
  generalize fs.headD [] = x at *
  generalize hX : bytE x = X at *
  obtain ⟨x1, x2⟩ := X
  clear hv2 h0 hz he hfz hX
  have Hb := hide (heap_lt hB.box)
  clear hB
  go_enter Tryd.func32, Tryd.ntmps32
  go_wp2_with fail
  (with_reducible refine hcall.mono ?_)
  rintro e w1 ⟨rfl, k1⟩
  have HO1 := hide (HO.out.keeps k1)
  obtain ⟨⟨v1, d1⟩, ⟨v2, d2⟩, ⟨v3, d3⟩, ⟨v4, d4⟩, ⟨v5, d5⟩, ⟨v6, d6⟩, ⟨v7, d7⟩, ⟨v8, d8⟩⟩ := cells9 HO1.out.box
  have fz := froB HO1.out.box 8
  have HF : Hid (RdP lo B ({ c with elem := x1 }, x2) w (.returned (.int .i64 x2)) (w1.setCell ⟨B, 8, none⟩ (.string x1))) :=
    ⟨fv, hv, rfl, HO1.out.set 8 _ (c2 := { c with elem := x1 }) rfl rfl rfl, ((show Keeps w w1 (fun k => k = B) from ⟨k1.os, k1.tape, k1.output, k1.size, fun k hk _ => k1.block k hk id⟩)).setCell ⟨B, 8, none⟩ (fun _ => rfl) _⟩
  clear hcall k1 q1 HO HO1
  go_wp2_with fail
  refine bodyPost_ret (v := .int .i64 x2) (by simp [results, Tryd.results32, go_sem]) rfl ?_
  exact HF.out
set_option maxRecDepth 100000 in
set_option maxHeartbeats 4000000 in
theorem rd_70 (lo B : Nat) (c : CmdD) (fv hv v : Value) (fs : List (List UInt8)) (w : World) (hlo : lo ≤ w.heap.size) (hB : CmdO lo B c fv hv w) (hv2 : StrsIn w v fs) (hl : fs.length ≤ 8388608) (hz : ∀ x, x ∈ fs → x.length ≤ 8388608) (he : ErrW w) : Calls Tryd.prog 32 #[.pointer (some ⟨B, 0, none⟩), .int .i32 70, v] w fun e w' => RdP lo B (rdF c 70 fs) w e w' := by
  have hcall := numbers_any v fs w hv2 hz hl he
  obtain ⟨b, o, cc, rfl, -, -⟩ := hv2
  rw [show rdF c 70 fs = ({ c with fl := (numsE fs).1 }, (numsE fs).2) from rfl]
  have HO := hide hB
  generalize hX : numsE fs = X at *
  obtain ⟨x1, x2⟩ := X
  clear hX hl hz he
  have Hb := hide (heap_lt hB.box)
  have Hlo := hide hlo
  clear hB hlo
  go_enter Tryd.func32, Tryd.ntmps32
  go_wp2_with fail
  (with_reducible refine hcall.mono ?_)
  rintro e w1 ⟨r, rfl, ⟨so, rn, rc, rfl⟩, hI, k1⟩
  have HO1 := hide (HO.out.keeps k1)
  obtain ⟨⟨v1, d1⟩, ⟨v2, d2⟩, ⟨v3, d3⟩, ⟨v4, d4⟩, ⟨v5, d5⟩, ⟨v6, d6⟩, ⟨v7, d7⟩, ⟨v8, d8⟩⟩ := cells9 HO1.out.box
  have fz := froB HO1.out.box 2
  have HF : Hid (RdP lo B ({ c with fl := x1 }, x2) w (.returned (.int .i64 x2)) (w1.setCell ⟨B, 2, none⟩ (.slice so rn rc))) :=
    ⟨.slice so rn rc, hv, rfl, HO1.out.setF (ownsRow_low2 hI Hlo.out) (fun g q1 q2 => new_old hI HO.out.s q1 q2), ((show Keeps w w1 (fun k => k = B) from ⟨k1.os, k1.tape, k1.output, k1.size, fun k hk _ => k1.block k hk id⟩)).setCell ⟨B, 2, none⟩ (fun _ => rfl) _⟩
  clear hcall k1 HO HO1 hI
  go_wp2_with fail
  refine bodyPost_ret (v := .int .i64 x2) (by simp [results, Tryd.results32, go_sem]) rfl ?_
  exact HF.out
set_option maxRecDepth 100000 in
set_option maxHeartbeats 4000000 in
theorem rd_83 (lo B : Nat) (c : CmdD) (fv hv v : Value) (fs : List (List UInt8)) (w : World) (hlo : lo ≤ w.heap.size) (hB : CmdO lo B c fv hv w) (hv2 : StrsIn w v fs) (hl : fs.length ≤ 8388608) (hz : ∀ x, x ∈ fs → x.length ≤ 8388608) (he : ErrW w) : Calls Tryd.prog 32 #[.pointer (some ⟨B, 0, none⟩), .int .i32 83, v] w fun e w' => RdP lo B (rdF c 83 fs) w e w' := by
  have hcall := numbers_any v fs w hv2 hz hl he
  obtain ⟨b, o, cc, rfl, -, -⟩ := hv2
  rw [show rdF c 83 fs = ({ c with hl := (numsE fs).1 }, (numsE fs).2) from rfl]
  have HO := hide hB
  generalize hX : numsE fs = X at *
  obtain ⟨x1, x2⟩ := X
  clear hX hl hz he
  have Hb := hide (heap_lt hB.box)
  have Hlo := hide hlo
  clear hB hlo
  go_enter Tryd.func32, Tryd.ntmps32
  go_wp2_with fail
  (with_reducible refine hcall.mono ?_)
  rintro e w1 ⟨r, rfl, ⟨so, rn, rc, rfl⟩, hI, k1⟩
  have HO1 := hide (HO.out.keeps k1)
  obtain ⟨⟨v1, d1⟩, ⟨v2, d2⟩, ⟨v3, d3⟩, ⟨v4, d4⟩, ⟨v5, d5⟩, ⟨v6, d6⟩, ⟨v7, d7⟩, ⟨v8, d8⟩⟩ := cells9 HO1.out.box
  have fz := froB HO1.out.box 3
  have HF : Hid (RdP lo B ({ c with hl := x1 }, x2) w (.returned (.int .i64 x2)) (w1.setCell ⟨B, 3, none⟩ (.slice so rn rc))) :=
    ⟨fv, .slice so rn rc, rfl, HO1.out.setS (ownsRow_low2 hI Hlo.out) (fun g q1 q2 => new_old hI HO.out.f q2 q1), ((show Keeps w w1 (fun k => k = B) from ⟨k1.os, k1.tape, k1.output, k1.size, fun k hk _ => k1.block k hk id⟩)).setCell ⟨B, 3, none⟩ (fun _ => rfl) _⟩
  clear hcall k1 HO HO1 hI
  go_wp2_with fail
  refine bodyPost_ret (v := .int .i64 x2) (by simp [results, Tryd.results32, go_sem]) rfl ?_
  exact HF.out
end Go.Proofs.YtfpiibccggjjpaaDoor
/-
  script: lineText.
-/
namespace Go.Proofs.YtfpiibccggjjpaaDoor
open Go.RowKit
set_option linter.unusedVariables false

theorem nextF_at {P : Program} {W : World} {B : Nat} {s : ByteArray} {pos : Nat} (ty : TypeId) (hB : W.heap[B]? = some (.stringIter s pos)) (h : pos < s.size) (ha : (s[pos]'h).toNat < 128) :
    (Instr.next (.pointer (some ⟨B, 0, none⟩)) true ty).run P W = .ok (.tuple #[.bool true, .int .i64 pos, .int .i32 (s[pos]'h).toNat]) (W.putObj B (.stringIter s (pos + 1))) := by
  simp only [Instr.next, getObj, setObj, Sem.run_bind, Sem.run, hB, Result.andThen, h, if_true, decode_ascii s pos h ha]
  simp [goInt, World.putObj]

theorem nextF_end {P : Program} {W : World} {B : Nat} {s : ByteArray} {pos : Nat} (ty : TypeId) (hB : W.heap[B]? = some (.stringIter s pos)) (h : ¬ pos < s.size) :
    (Instr.next (.pointer (some ⟨B, 0, none⟩)) true ty).run P W = .ok (.tuple #[.bool false]) W := by
  simp [Instr.next, getObj, Sem.run, hB, h]

theorem rowF_put {W : World} {base : Nat} {v : Value} {n : Nat} {xs : List Value} (h : W.ownsRow base 9 1 v n xs) {B : Nat} {s : ByteArray} {pos : Nat} (hB : W.heap[B]? = some (.stringIter s pos)) (o : Obj) : (W.putObj B o).ownsRow base 9 1 v n xs := by
  refine ⟨h.1, ?_⟩
  rcases h.2 with h2 | ⟨g, cap, cur, e1, e2, e3, r⟩
  · exact Or.inl h2
  · refine Or.inr ⟨g, cap, cur, e1, e2, ?_, r⟩
    rw [World.putObj_heap_other (fun e => ?_)]
    · exact e3
    · rw [e, hB] at e3
      cases e3

/-- Several words are appended: their cells lie in block h. -/
theorem append_words {w : World} {base : Nat} {v : Value} {n : Nat} {xs : List Value} (hown : w.ownsRow base 9 1 v n xs) {h m c : Nat} {us : List ByteArray} (hu : ∀ j u, (us.map Value.string)[j]? = some u → w.cell? ⟨h, j, none⟩ = some u) (hm : us.length = m) (h0 : 0 < m) (hbytes : (n + m) * 16 ≤ 140737488355328) (hbn : n + m ≤ maxLen) (hbase : base ≤ w.heap.size) :
    ∃ g cap w', (∀ ty, (Builtin.append_ #[42, 42] ty #[v, .slice (some ⟨h, 0, none⟩) m c]).run Tryd.prog w = .ok (.slice (some ⟨g, 0, none⟩) (n + m) cap) w') ∧
      w'.ownsRow base 9 1 (.slice (some ⟨g, 0, none⟩) (n + m) cap) (n + m) (xs ++ us.map Value.string) ∧ Keeps w w' (fun k => v.ownBlock = some k) := by
  obtain ⟨i, hi1, hi2, hi3, hi4⟩ := info_parts Tryd.infoS4
  obtain ⟨g, cap, w', hr, h2, h3, h4, _⟩ := run_append_lies (P := Tryd.prog) w 42 0 base 9 i (.string ⟨#[]⟩) 1 16 Tryd.underlying42 hi1 hi2 hi3 hi4 rfl (by omega) v n xs hown ⟨h, 0, none⟩ m c (us.map Value.string) (by simp [hm])
    (fun j x hj => by
      rw [addr_add, Nat.zero_add]
      exact hu j x hj) (fun u hu => by
      obtain ⟨z, -, rfl⟩ := List.mem_map.1 hu
      rfl) h0 hbn hbytes hbase w.heap.size rfl
  exact ⟨g, cap, w', fun ty => hr, h2, Keeps.ofGrown h3⟩

theorem CmdIn.keeps {w w' : World} {c : CmdD} {fs hs : Value} (h : CmdIn w c fs hs) (k : Keeps w w' (fun _ => False)) : CmdIn w' c fs hs :=
  ⟨h.f.keeps k, h.s.keeps k, h.lf, h.ls, h.h, h.n, h.u, h.v, h.key, h.elem⟩

/-- The words behind a line's name. -/
def fldsD (c : CmdD) (l : List UInt8) : List ByteArray := l.flatMap fun x => fldD c (x.toNat : Int)

theorem fldsD_take {c : CmdD} {l : List UInt8} {i : Nat} (h : i < l.length) : fldsD c (l.take (i + 1)) = fldsD c (l.take i) ++ fldD c (l[i].toNat : Int) := by
  unfold fldsD
  rw [List.take_succ_eq_append_getElem h, List.flatMap_append]
  simp

def lineI (i : Nat) (c : CmdD) : ByteArray := ⟨(Lib.join ((nmN i :: fldsD c (fmN i).data.toList).map (·.data.toList)) [32]).toArray⟩ ++ ⟨#[10]⟩

theorem fld_few {w : World} {c : CmdD} {fs hs : Value} (h : CmdIn w c fs hs) (p : Int) : (fldD c p).length ≤ 8388608 := by
  have := h.lf
  have := h.ls
  unfold fldD
  repeat' split
  all_goals simp <;> omega

theorem flds_few {w : World} {c : CmdD} {fs hs : Value} (h : CmdIn w c fs hs) : ∀ l : List UInt8, (fldsD c l).length ≤ 8388608 * l.length
  | [] => by simp [fldsD]
  | x :: r => by
    have ih := flds_few h r
    have := fld_few h (x.toNat : Int)
    unfold fldsD at ih ⊢
    rw [List.flatMap_cons, List.length_append, List.length_cons]
    omega

theorem form_few (i : Nat) (hi : i < 16) : (fmN i).data.toList.length ≤ 3 ∧ ∀ x, x ∈ (fmN i).data.toList → x.toNat < 128 := by
  have : ∀ k : Fin 16, (fmN k.1).data.toList.length ≤ 3 ∧ ∀ x, x ∈ (fmN k.1).data.toList → x.toNat < 128 := by decide +kernel
  exact this ⟨i, hi⟩
end Go.Proofs.YtfpiibccggjjpaaDoor
namespace Go.Proofs
open Go.Shelf
def Tryd.lays156_ren : Go.Shelf.Ren := ⟨fun | 156 => 37 | 165 => 53 | 166 => 24 | 169 => 26 | 240 => 34 | 241 => 68 | 276 => 48 | 277 => 85 | n => n, fun | 31 => 42 | 9 => 9 | 3 => 3 | 4 => 4 | 0 => 0 | 20 => 20 | 72 => 56 | 76 => 59 | 70 => 53 | 37 => 54 | 75 => 58 | 127 => 79 | 164 => 100 | 5 => 5 | 80 => 62 | n => n, fun | n => n⟩
theorem Tryd.lays156 : Go.Proofs.Lays.n156 Tryd.prog Tryd.lays156_ren := {
  mixed := by kernel_rfl
  f156 := Tryd.func37.trans (congrArg some (by kernel_rfl))
  f165 := Tryd.func53.trans (congrArg some (by kernel_rfl))
  f166 := Tryd.func24.trans (congrArg some (by kernel_rfl))
  f169 := Tryd.func26.trans (congrArg some (by kernel_rfl))
  f240 := Tryd.func34.trans (congrArg some (by kernel_rfl))
  f241 := Tryd.func68.trans (congrArg some (by kernel_rfl))
  f276 := Tryd.func48.trans (congrArg some (by kernel_rfl))
  f277 := Tryd.func85.trans (congrArg some (by kernel_rfl))
  t0 := Tryd.underlying0
  a0 := Tryd.isAgg0
  z0 := Tryd.sizeOf0
  v0 := Tryd.zeroValue0
  t3 := Tryd.underlying3
  a3 := Tryd.isAgg3
  z3 := Tryd.sizeOf3
  v3 := Tryd.zeroValue3
  t4 := Tryd.underlying4
  a4 := Tryd.isAgg4
  z4 := Tryd.sizeOf4
  v4 := Tryd.zeroValue4
  t9 := Tryd.underlying9
  a9 := Tryd.isAgg9
  z9 := Tryd.sizeOf9
  v9 := Tryd.zeroValue9
  t20 := Tryd.underlying20
  a20 := Tryd.isAgg20
  z20 := Tryd.sizeOf20
  v20 := Tryd.zeroValue20
  t31 := Tryd.underlying42
  a31 := Tryd.isAgg42
  z31 := Tryd.sizeOf42
  v31 := Tryd.zeroValue42
  t37 := Tryd.underlying54
  a37 := Tryd.isAgg54
  z37 := Tryd.sizeOf54
  v37 := Tryd.zeroValue54
  t70 := Tryd.underlying53
  a70 := Tryd.isAgg53
  z70 := Tryd.sizeOf53
  v70 := Tryd.zeroValue53
  t72 := Tryd.underlying56
  a72 := Tryd.isAgg56
  z72 := Tryd.sizeOf56
  v72 := Tryd.zeroValue56
  t75 := Tryd.underlying58
  a75 := Tryd.isAgg58
  z75 := Tryd.sizeOf58
  v75 := Tryd.zeroValue58
  t76 := Tryd.underlying59
  a76 := Tryd.isAgg59
  z76 := Tryd.sizeOf59
  v76 := Tryd.zeroValue59
  t127 := Tryd.underlying79
  a127 := Tryd.isAgg79
  z127 := Tryd.sizeOf79
  v127 := Tryd.zeroValue79
  t164 := Tryd.underlying100
  a164 := Tryd.isAgg100
  z164 := Tryd.sizeOf100
  v164 := Tryd.zeroValue100 }
theorem Tryd.Builder_Extra_156 : Builder.Extra Tryd.prog Tryd.lays156_ren := {
  sizeBuilder := by kernel_rfl
  liesBuilder := by kernel_rfl
  t5 := Tryd.underlying5
  a5 := Tryd.isAgg5
  z5 := Tryd.sizeOf5
  v5 := Tryd.zeroValue5
  infoByte := by kernel_rfl
  cellsByte := by kernel_rfl
  sizeByte := by kernel_rfl
  neB5 := by decide }
open Go.RowKit in
theorem Tryd.strings_Join_none (a : Option Addr) (c : Nat) (sep : ByteArray) (w : World) :
    Calls Tryd.prog 37 #[.slice a 0 c, .string sep] w fun e w' => e = .returned (.string ⟨#[]⟩) ∧ w' = w := Any.strings_Join_none Tryd.lays156 Tryd.Builder_Extra_156 a c sep w
open Go.RowKit in
theorem Tryd.strings_Join (bk o c : Nat) (xs : List ByteArray) (sep : ByteArray) (w : World) (hcells : ∀ (j : Nat) x, xs[j]? = some x → w.cell? ⟨bk, o + j, none⟩ = some (.string x)) (hbk : bk < w.heap.size) (hN : xs.length ≤ 140737488355328) (hcap : xs.length ≤ c) (hlen : (Lib.join (xs.map (·.data.toList)) sep.data.toList).length ≤ 140737488355328) :
    Calls Tryd.prog 37 #[.slice (some ⟨bk, o, none⟩) xs.length c, .string sep] w fun e w' => e = .returned (.string ⟨(Lib.join (xs.map (·.data.toList)) sep.data.toList).toArray⟩) ∧ Below w.heap.size w w' := Any.strings_Join Tryd.lays156 Tryd.Builder_Extra_156 bk o c xs sep w hcells hbk hN hcap hlen
end Go.Proofs
