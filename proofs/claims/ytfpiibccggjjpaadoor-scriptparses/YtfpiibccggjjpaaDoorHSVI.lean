/-
  script: the reference's command, whole (gensvi.py).
-/
import Derived.Test.YtfpiibccggjjpaaDoorHSVH0
import Derived.Test.YtfpiibccggjjpaaDoorHSVH1
import Derived.Test.YtfpiibccggjjpaaDoorHSVH2
namespace Go.Proofs.YtfpiibccggjjpaaDoor
open Go.RowKit
set_option linter.unusedVariables false
set_option linter.unusedSimpArgs false
theorem cd_of {c : CmdD} {w : World} {fs hs : Value} {cells : Array Value} {e : Ending} {w' : World} (h : e = .returned (.agg cells) ∧ Keeps w w' (fun _ => False)) (hc : cells = (CmV.cells ⟨c, fs, hs⟩).toArray) (hf : IntsB w fs c.fl) (hh : IntsB w hs c.hl) : CdQ c w e w' := ⟨fs, hs, by rw [h.1, hc], hf.keeps h.2, hh.keeps h.2, h.2⟩
theorem rcmd_any (op : Int) (f : FlD) (lo : Nat) (vn vw vb : Value) (w : World) (hf : FlV lo f vn vw vb w) (h1 : op = 1 → f.n ≠ []) : Calls Tryd.prog 42 #[.int .i64 op, .agg #[vn, vw, vb]] w fun e w' => CdQ (cmdF op f) w e w' := by
  obtain ⟨n, ws, bs⟩ := f
  have hn : IntsB w vn n := IntsB.ofO hf.n
  have hw : w.ownsRow lo 31 1 vw ws.length (ws.map cellW) := hf.w
  have hb : w.ownsRow lo 9 1 vb bs.length (bs.map Value.string) := hf.b
  clear hf
  replace h1 : op = 1 → n ≠ [] := h1
  rcases bs with _ | ⟨x0, _ | ⟨x1, bs⟩⟩
  · obtain ⟨sb, cb, rfl⟩ := ownsRow_slice hb
    rcases ws with _ | ⟨y0, _ | ⟨y1, ws⟩⟩
    · obtain ⟨sw, cw, rfl⟩ := ownsRow_slice hw
      by_cases e1 : op = 1
      · subst e1
        rcases n with _ | ⟨z, l⟩
        · exact absurd rfl (h1 rfl)
        · obtain ⟨gn, on, cn, v', rfl, qn, hcut, hB⟩ := cut_ints hn
          obtain ⟨so, c1, rfl⟩ := hB.form
          have hc : cmdF 1 ⟨z :: l, [], []⟩ = ⟨1, 0, 0, 0, z, ⟨#[]⟩, ⟨#[]⟩, l, []⟩ := by simp [cmdF]
          rw [hc]
          exact (cmd_00A w sb cb sw cw gn on cn _ (Nat.succ_pos _) z qn so _ c1 hcut).mono fun e w' he => cd_of he rfl hB (IntsB.nil w)
      · by_cases e10 : op = 10
        · subst e10
          obtain ⟨so, c1, rfl⟩ := hn.form
          have hc : cmdF 10 ⟨n, [], []⟩ = ⟨10, 0, 0, 0, 0, ⟨#[]⟩, ⟨#[]⟩, [], n⟩ := by simp [cmdF]
          rw [hc]
          exact (cmd_00B w sb cb sw cw so _ c1).mono fun e w' he => cd_of he rfl (IntsB.nil w) hn
        · rcases n with _ | ⟨z, l⟩
          · obtain ⟨so, c1, rfl⟩ := hn.form
            have hc : cmdF op ⟨[], [], []⟩ = ⟨op, 0, 0, 0, 0, ⟨#[]⟩, ⟨#[]⟩, [], []⟩ := by simp [cmdF, e1, e10]
            rw [hc]
            exact (cmd_00C w sb cb sw cw op e1 e10 so c1).mono fun e w' he => cd_of he rfl (IntsB.nil w) (IntsB.nil w)
          · obtain ⟨gn, on, cn, v', rfl, qn, hcut, hB⟩ := cut_ints hn
            have hc : cmdF op ⟨z :: l, [], []⟩ = ⟨op, z, 0, 0, 0, ⟨#[]⟩, ⟨#[]⟩, [], []⟩ := by simp [cmdF, e1, e10]
            rw [hc]
            exact (cmd_00D w sb cb sw cw op e1 e10 gn on cn _ (Nat.succ_pos _) z qn).mono fun e w' he => cd_of he rfl (IntsB.nil w) (IntsB.nil w)
    · obtain ⟨gw, cw, rfl, qw0⟩ := own_first hw
      by_cases e1 : op = 1
      · subst e1
        rcases n with _ | ⟨z, l⟩
        · exact absurd rfl (h1 rfl)
        · obtain ⟨gn, on, cn, v', rfl, qn, hcut, hB⟩ := cut_ints hn
          obtain ⟨so, c1, rfl⟩ := hB.form
          have hc : cmdF 1 ⟨z :: l, [y0], []⟩ = ⟨1, 0, y0, 0, z, ⟨#[]⟩, ⟨#[]⟩, l, []⟩ := by simp [cmdF]
          rw [hc]
          exact (cmd_01A w sb cb gw cw y0 qw0 gn on cn _ (Nat.succ_pos _) z qn so _ c1 hcut).mono fun e w' he => cd_of he rfl hB (IntsB.nil w)
      · by_cases e10 : op = 10
        · subst e10
          obtain ⟨so, c1, rfl⟩ := hn.form
          have hc : cmdF 10 ⟨n, [y0], []⟩ = ⟨10, 0, y0, 0, 0, ⟨#[]⟩, ⟨#[]⟩, [], n⟩ := by simp [cmdF]
          rw [hc]
          exact (cmd_01B w sb cb gw cw y0 qw0 so _ c1).mono fun e w' he => cd_of he rfl (IntsB.nil w) hn
        · rcases n with _ | ⟨z, l⟩
          · obtain ⟨so, c1, rfl⟩ := hn.form
            have hc : cmdF op ⟨[], [y0], []⟩ = ⟨op, 0, y0, 0, 0, ⟨#[]⟩, ⟨#[]⟩, [], []⟩ := by simp [cmdF, e1, e10]
            rw [hc]
            exact (cmd_01C w sb cb gw cw y0 qw0 op e1 e10 so c1).mono fun e w' he => cd_of he rfl (IntsB.nil w) (IntsB.nil w)
          · obtain ⟨gn, on, cn, v', rfl, qn, hcut, hB⟩ := cut_ints hn
            have hc : cmdF op ⟨z :: l, [y0], []⟩ = ⟨op, z, y0, 0, 0, ⟨#[]⟩, ⟨#[]⟩, [], []⟩ := by simp [cmdF, e1, e10]
            rw [hc]
            exact (cmd_01D w sb cb gw cw y0 qw0 op e1 e10 gn on cn _ (Nat.succ_pos _) z qn).mono fun e w' he => cd_of he rfl (IntsB.nil w) (IntsB.nil w)
    · obtain ⟨gw, cw, rfl, qw0, qw1⟩ := own_second hw
      by_cases e1 : op = 1
      · subst e1
        rcases n with _ | ⟨z, l⟩
        · exact absurd rfl (h1 rfl)
        · obtain ⟨gn, on, cn, v', rfl, qn, hcut, hB⟩ := cut_ints hn
          obtain ⟨so, c1, rfl⟩ := hB.form
          have hc : cmdF 1 ⟨z :: l, (y0 :: y1 :: ws), []⟩ = ⟨1, 0, y0, y1, z, ⟨#[]⟩, ⟨#[]⟩, l, []⟩ := by simp [cmdF]
          rw [hc]
          exact (cmd_02A w sb cb gw cw y0 qw0 _ (by simp) y1 qw1 gn on cn _ (Nat.succ_pos _) z qn so _ c1 hcut).mono fun e w' he => cd_of he rfl hB (IntsB.nil w)
      · by_cases e10 : op = 10
        · subst e10
          obtain ⟨so, c1, rfl⟩ := hn.form
          have hc : cmdF 10 ⟨n, (y0 :: y1 :: ws), []⟩ = ⟨10, 0, y0, y1, 0, ⟨#[]⟩, ⟨#[]⟩, [], n⟩ := by simp [cmdF]
          rw [hc]
          exact (cmd_02B w sb cb gw cw y0 qw0 _ (by simp) y1 qw1 so _ c1).mono fun e w' he => cd_of he rfl (IntsB.nil w) hn
        · rcases n with _ | ⟨z, l⟩
          · obtain ⟨so, c1, rfl⟩ := hn.form
            have hc : cmdF op ⟨[], (y0 :: y1 :: ws), []⟩ = ⟨op, 0, y0, y1, 0, ⟨#[]⟩, ⟨#[]⟩, [], []⟩ := by simp [cmdF, e1, e10]
            rw [hc]
            exact (cmd_02C w sb cb gw cw y0 qw0 _ (by simp) y1 qw1 op e1 e10 so c1).mono fun e w' he => cd_of he rfl (IntsB.nil w) (IntsB.nil w)
          · obtain ⟨gn, on, cn, v', rfl, qn, hcut, hB⟩ := cut_ints hn
            have hc : cmdF op ⟨z :: l, (y0 :: y1 :: ws), []⟩ = ⟨op, z, y0, y1, 0, ⟨#[]⟩, ⟨#[]⟩, [], []⟩ := by simp [cmdF, e1, e10]
            rw [hc]
            exact (cmd_02D w sb cb gw cw y0 qw0 _ (by simp) y1 qw1 op e1 e10 gn on cn _ (Nat.succ_pos _) z qn).mono fun e w' he => cd_of he rfl (IntsB.nil w) (IntsB.nil w)
  · obtain ⟨gb, cb, rfl, qb0⟩ := own_first hb
    rcases ws with _ | ⟨y0, _ | ⟨y1, ws⟩⟩
    · obtain ⟨sw, cw, rfl⟩ := ownsRow_slice hw
      by_cases e1 : op = 1
      · subst e1
        rcases n with _ | ⟨z, l⟩
        · exact absurd rfl (h1 rfl)
        · obtain ⟨gn, on, cn, v', rfl, qn, hcut, hB⟩ := cut_ints hn
          obtain ⟨so, c1, rfl⟩ := hB.form
          have hc : cmdF 1 ⟨z :: l, [], [x0]⟩ = ⟨1, 0, 0, 0, z, x0, ⟨#[]⟩, l, []⟩ := by simp [cmdF]
          rw [hc]
          exact (cmd_10A w gb cb x0 qb0 sw cw gn on cn _ (Nat.succ_pos _) z qn so _ c1 hcut).mono fun e w' he => cd_of he rfl hB (IntsB.nil w)
      · by_cases e10 : op = 10
        · subst e10
          obtain ⟨so, c1, rfl⟩ := hn.form
          have hc : cmdF 10 ⟨n, [], [x0]⟩ = ⟨10, 0, 0, 0, 0, x0, ⟨#[]⟩, [], n⟩ := by simp [cmdF]
          rw [hc]
          exact (cmd_10B w gb cb x0 qb0 sw cw so _ c1).mono fun e w' he => cd_of he rfl (IntsB.nil w) hn
        · rcases n with _ | ⟨z, l⟩
          · obtain ⟨so, c1, rfl⟩ := hn.form
            have hc : cmdF op ⟨[], [], [x0]⟩ = ⟨op, 0, 0, 0, 0, x0, ⟨#[]⟩, [], []⟩ := by simp [cmdF, e1, e10]
            rw [hc]
            exact (cmd_10C w gb cb x0 qb0 sw cw op e1 e10 so c1).mono fun e w' he => cd_of he rfl (IntsB.nil w) (IntsB.nil w)
          · obtain ⟨gn, on, cn, v', rfl, qn, hcut, hB⟩ := cut_ints hn
            have hc : cmdF op ⟨z :: l, [], [x0]⟩ = ⟨op, z, 0, 0, 0, x0, ⟨#[]⟩, [], []⟩ := by simp [cmdF, e1, e10]
            rw [hc]
            exact (cmd_10D w gb cb x0 qb0 sw cw op e1 e10 gn on cn _ (Nat.succ_pos _) z qn).mono fun e w' he => cd_of he rfl (IntsB.nil w) (IntsB.nil w)
    · obtain ⟨gw, cw, rfl, qw0⟩ := own_first hw
      by_cases e1 : op = 1
      · subst e1
        rcases n with _ | ⟨z, l⟩
        · exact absurd rfl (h1 rfl)
        · obtain ⟨gn, on, cn, v', rfl, qn, hcut, hB⟩ := cut_ints hn
          obtain ⟨so, c1, rfl⟩ := hB.form
          have hc : cmdF 1 ⟨z :: l, [y0], [x0]⟩ = ⟨1, 0, y0, 0, z, x0, ⟨#[]⟩, l, []⟩ := by simp [cmdF]
          rw [hc]
          exact (cmd_11A w gb cb x0 qb0 gw cw y0 qw0 gn on cn _ (Nat.succ_pos _) z qn so _ c1 hcut).mono fun e w' he => cd_of he rfl hB (IntsB.nil w)
      · by_cases e10 : op = 10
        · subst e10
          obtain ⟨so, c1, rfl⟩ := hn.form
          have hc : cmdF 10 ⟨n, [y0], [x0]⟩ = ⟨10, 0, y0, 0, 0, x0, ⟨#[]⟩, [], n⟩ := by simp [cmdF]
          rw [hc]
          exact (cmd_11B w gb cb x0 qb0 gw cw y0 qw0 so _ c1).mono fun e w' he => cd_of he rfl (IntsB.nil w) hn
        · rcases n with _ | ⟨z, l⟩
          · obtain ⟨so, c1, rfl⟩ := hn.form
            have hc : cmdF op ⟨[], [y0], [x0]⟩ = ⟨op, 0, y0, 0, 0, x0, ⟨#[]⟩, [], []⟩ := by simp [cmdF, e1, e10]
            rw [hc]
            exact (cmd_11C w gb cb x0 qb0 gw cw y0 qw0 op e1 e10 so c1).mono fun e w' he => cd_of he rfl (IntsB.nil w) (IntsB.nil w)
          · obtain ⟨gn, on, cn, v', rfl, qn, hcut, hB⟩ := cut_ints hn
            have hc : cmdF op ⟨z :: l, [y0], [x0]⟩ = ⟨op, z, y0, 0, 0, x0, ⟨#[]⟩, [], []⟩ := by simp [cmdF, e1, e10]
            rw [hc]
            exact (cmd_11D w gb cb x0 qb0 gw cw y0 qw0 op e1 e10 gn on cn _ (Nat.succ_pos _) z qn).mono fun e w' he => cd_of he rfl (IntsB.nil w) (IntsB.nil w)
    · obtain ⟨gw, cw, rfl, qw0, qw1⟩ := own_second hw
      by_cases e1 : op = 1
      · subst e1
        rcases n with _ | ⟨z, l⟩
        · exact absurd rfl (h1 rfl)
        · obtain ⟨gn, on, cn, v', rfl, qn, hcut, hB⟩ := cut_ints hn
          obtain ⟨so, c1, rfl⟩ := hB.form
          have hc : cmdF 1 ⟨z :: l, (y0 :: y1 :: ws), [x0]⟩ = ⟨1, 0, y0, y1, z, x0, ⟨#[]⟩, l, []⟩ := by simp [cmdF]
          rw [hc]
          exact (cmd_12A w gb cb x0 qb0 gw cw y0 qw0 _ (by simp) y1 qw1 gn on cn _ (Nat.succ_pos _) z qn so _ c1 hcut).mono fun e w' he => cd_of he rfl hB (IntsB.nil w)
      · by_cases e10 : op = 10
        · subst e10
          obtain ⟨so, c1, rfl⟩ := hn.form
          have hc : cmdF 10 ⟨n, (y0 :: y1 :: ws), [x0]⟩ = ⟨10, 0, y0, y1, 0, x0, ⟨#[]⟩, [], n⟩ := by simp [cmdF]
          rw [hc]
          exact (cmd_12B w gb cb x0 qb0 gw cw y0 qw0 _ (by simp) y1 qw1 so _ c1).mono fun e w' he => cd_of he rfl (IntsB.nil w) hn
        · rcases n with _ | ⟨z, l⟩
          · obtain ⟨so, c1, rfl⟩ := hn.form
            have hc : cmdF op ⟨[], (y0 :: y1 :: ws), [x0]⟩ = ⟨op, 0, y0, y1, 0, x0, ⟨#[]⟩, [], []⟩ := by simp [cmdF, e1, e10]
            rw [hc]
            exact (cmd_12C w gb cb x0 qb0 gw cw y0 qw0 _ (by simp) y1 qw1 op e1 e10 so c1).mono fun e w' he => cd_of he rfl (IntsB.nil w) (IntsB.nil w)
          · obtain ⟨gn, on, cn, v', rfl, qn, hcut, hB⟩ := cut_ints hn
            have hc : cmdF op ⟨z :: l, (y0 :: y1 :: ws), [x0]⟩ = ⟨op, z, y0, y1, 0, x0, ⟨#[]⟩, [], []⟩ := by simp [cmdF, e1, e10]
            rw [hc]
            exact (cmd_12D w gb cb x0 qb0 gw cw y0 qw0 _ (by simp) y1 qw1 op e1 e10 gn on cn _ (Nat.succ_pos _) z qn).mono fun e w' he => cd_of he rfl (IntsB.nil w) (IntsB.nil w)
  · obtain ⟨gb, cb, rfl, qb0, qb1⟩ := own_second hb
    rcases ws with _ | ⟨y0, _ | ⟨y1, ws⟩⟩
    · obtain ⟨sw, cw, rfl⟩ := ownsRow_slice hw
      by_cases e1 : op = 1
      · subst e1
        rcases n with _ | ⟨z, l⟩
        · exact absurd rfl (h1 rfl)
        · obtain ⟨gn, on, cn, v', rfl, qn, hcut, hB⟩ := cut_ints hn
          obtain ⟨so, c1, rfl⟩ := hB.form
          have hc : cmdF 1 ⟨z :: l, [], (x0 :: x1 :: bs)⟩ = ⟨1, 0, 0, 0, z, x0, x1, l, []⟩ := by simp [cmdF]
          rw [hc]
          exact (cmd_20A w gb cb x0 qb0 _ (by simp) x1 qb1 sw cw gn on cn _ (Nat.succ_pos _) z qn so _ c1 hcut).mono fun e w' he => cd_of he rfl hB (IntsB.nil w)
      · by_cases e10 : op = 10
        · subst e10
          obtain ⟨so, c1, rfl⟩ := hn.form
          have hc : cmdF 10 ⟨n, [], (x0 :: x1 :: bs)⟩ = ⟨10, 0, 0, 0, 0, x0, x1, [], n⟩ := by simp [cmdF]
          rw [hc]
          exact (cmd_20B w gb cb x0 qb0 _ (by simp) x1 qb1 sw cw so _ c1).mono fun e w' he => cd_of he rfl (IntsB.nil w) hn
        · rcases n with _ | ⟨z, l⟩
          · obtain ⟨so, c1, rfl⟩ := hn.form
            have hc : cmdF op ⟨[], [], (x0 :: x1 :: bs)⟩ = ⟨op, 0, 0, 0, 0, x0, x1, [], []⟩ := by simp [cmdF, e1, e10]
            rw [hc]
            exact (cmd_20C w gb cb x0 qb0 _ (by simp) x1 qb1 sw cw op e1 e10 so c1).mono fun e w' he => cd_of he rfl (IntsB.nil w) (IntsB.nil w)
          · obtain ⟨gn, on, cn, v', rfl, qn, hcut, hB⟩ := cut_ints hn
            have hc : cmdF op ⟨z :: l, [], (x0 :: x1 :: bs)⟩ = ⟨op, z, 0, 0, 0, x0, x1, [], []⟩ := by simp [cmdF, e1, e10]
            rw [hc]
            exact (cmd_20D w gb cb x0 qb0 _ (by simp) x1 qb1 sw cw op e1 e10 gn on cn _ (Nat.succ_pos _) z qn).mono fun e w' he => cd_of he rfl (IntsB.nil w) (IntsB.nil w)
    · obtain ⟨gw, cw, rfl, qw0⟩ := own_first hw
      by_cases e1 : op = 1
      · subst e1
        rcases n with _ | ⟨z, l⟩
        · exact absurd rfl (h1 rfl)
        · obtain ⟨gn, on, cn, v', rfl, qn, hcut, hB⟩ := cut_ints hn
          obtain ⟨so, c1, rfl⟩ := hB.form
          have hc : cmdF 1 ⟨z :: l, [y0], (x0 :: x1 :: bs)⟩ = ⟨1, 0, y0, 0, z, x0, x1, l, []⟩ := by simp [cmdF]
          rw [hc]
          exact (cmd_21A w gb cb x0 qb0 _ (by simp) x1 qb1 gw cw y0 qw0 gn on cn _ (Nat.succ_pos _) z qn so _ c1 hcut).mono fun e w' he => cd_of he rfl hB (IntsB.nil w)
      · by_cases e10 : op = 10
        · subst e10
          obtain ⟨so, c1, rfl⟩ := hn.form
          have hc : cmdF 10 ⟨n, [y0], (x0 :: x1 :: bs)⟩ = ⟨10, 0, y0, 0, 0, x0, x1, [], n⟩ := by simp [cmdF]
          rw [hc]
          exact (cmd_21B w gb cb x0 qb0 _ (by simp) x1 qb1 gw cw y0 qw0 so _ c1).mono fun e w' he => cd_of he rfl (IntsB.nil w) hn
        · rcases n with _ | ⟨z, l⟩
          · obtain ⟨so, c1, rfl⟩ := hn.form
            have hc : cmdF op ⟨[], [y0], (x0 :: x1 :: bs)⟩ = ⟨op, 0, y0, 0, 0, x0, x1, [], []⟩ := by simp [cmdF, e1, e10]
            rw [hc]
            exact (cmd_21C w gb cb x0 qb0 _ (by simp) x1 qb1 gw cw y0 qw0 op e1 e10 so c1).mono fun e w' he => cd_of he rfl (IntsB.nil w) (IntsB.nil w)
          · obtain ⟨gn, on, cn, v', rfl, qn, hcut, hB⟩ := cut_ints hn
            have hc : cmdF op ⟨z :: l, [y0], (x0 :: x1 :: bs)⟩ = ⟨op, z, y0, 0, 0, x0, x1, [], []⟩ := by simp [cmdF, e1, e10]
            rw [hc]
            exact (cmd_21D w gb cb x0 qb0 _ (by simp) x1 qb1 gw cw y0 qw0 op e1 e10 gn on cn _ (Nat.succ_pos _) z qn).mono fun e w' he => cd_of he rfl (IntsB.nil w) (IntsB.nil w)
    · obtain ⟨gw, cw, rfl, qw0, qw1⟩ := own_second hw
      by_cases e1 : op = 1
      · subst e1
        rcases n with _ | ⟨z, l⟩
        · exact absurd rfl (h1 rfl)
        · obtain ⟨gn, on, cn, v', rfl, qn, hcut, hB⟩ := cut_ints hn
          obtain ⟨so, c1, rfl⟩ := hB.form
          have hc : cmdF 1 ⟨z :: l, (y0 :: y1 :: ws), (x0 :: x1 :: bs)⟩ = ⟨1, 0, y0, y1, z, x0, x1, l, []⟩ := by simp [cmdF]
          rw [hc]
          exact (cmd_22A w gb cb x0 qb0 _ (by simp) x1 qb1 gw cw y0 qw0 _ (by simp) y1 qw1 gn on cn _ (Nat.succ_pos _) z qn so _ c1 hcut).mono fun e w' he => cd_of he rfl hB (IntsB.nil w)
      · by_cases e10 : op = 10
        · subst e10
          obtain ⟨so, c1, rfl⟩ := hn.form
          have hc : cmdF 10 ⟨n, (y0 :: y1 :: ws), (x0 :: x1 :: bs)⟩ = ⟨10, 0, y0, y1, 0, x0, x1, [], n⟩ := by simp [cmdF]
          rw [hc]
          exact (cmd_22B w gb cb x0 qb0 _ (by simp) x1 qb1 gw cw y0 qw0 _ (by simp) y1 qw1 so _ c1).mono fun e w' he => cd_of he rfl (IntsB.nil w) hn
        · rcases n with _ | ⟨z, l⟩
          · obtain ⟨so, c1, rfl⟩ := hn.form
            have hc : cmdF op ⟨[], (y0 :: y1 :: ws), (x0 :: x1 :: bs)⟩ = ⟨op, 0, y0, y1, 0, x0, x1, [], []⟩ := by simp [cmdF, e1, e10]
            rw [hc]
            exact (cmd_22C w gb cb x0 qb0 _ (by simp) x1 qb1 gw cw y0 qw0 _ (by simp) y1 qw1 op e1 e10 so c1).mono fun e w' he => cd_of he rfl (IntsB.nil w) (IntsB.nil w)
          · obtain ⟨gn, on, cn, v', rfl, qn, hcut, hB⟩ := cut_ints hn
            have hc : cmdF op ⟨z :: l, (y0 :: y1 :: ws), (x0 :: x1 :: bs)⟩ = ⟨op, z, y0, y1, 0, x0, x1, [], []⟩ := by simp [cmdF, e1, e10]
            rw [hc]
            exact (cmd_22D w gb cb x0 qb0 _ (by simp) x1 qb1 gw cw y0 qw0 _ (by simp) y1 qw1 op e1 e10 gn on cn _ (Nat.succ_pos _) z qn).mono fun e w' he => cd_of he rfl (IntsB.nil w) (IntsB.nil w)
end Go.Proofs.YtfpiibccggjjpaaDoor
