import Derived.Test.YtlgmpnaalifegabWalks3
import Derived.Test.YtlgmpnaalifegabBase8
namespace Go.Proofs.Ytlgmpnaalifegab
open Go.RowKit

theorem Try.infoB : (Try.prog.info? 30).map (fun i => (i.zero, i.size, i.bytes)) = some (some (.slice none 0 0), 1, 24) := by kernel_rfl

theorem StrsAt.mono {w : World} {B B' : Nat} {ao : Option Addr} {ts : List ByteArray} (h : StrsAt w B ao ts) (hB : B ≤ B') : StrsAt w B' ao ts := fun i hi => by
  obtain ⟨bb, oo, e1, e2, e3⟩ := h i hi
  exact ⟨bb, oo, e1, by omega, e3⟩

def RoomyPost (w : World) (xs : List (List UInt8)) (e : Ending) (w' : World) : Prop :=
  ∃ gl cl wv hs vs ws bh, e = .returned (.tuple #[.slice (some ⟨gl, 0, none⟩) (xs.length + 1) cl, wv]) ∧ Laid 5 30 w.heap.size w' gl cl wv xs hs vs ws bh ∧ Keeps w w' (fun k => w.heap.size ≤ k)

set_option maxHeartbeats 2000000 in
theorem roomy_any (w : World) (ao : Option Addr) (cap : Nat) (ts : List ByteArray) (h : StrsAt w w.heap.size ao ts) (hn : ts.length ≤ 1048576) (hz : ∀ t ∈ ts, t.size ≤ 1048576) :
    Calls Try.prog 24 #[.slice ao ts.length cap] w fun e w' => RoomyPost w (bytesOf ts) e w' := by
  have hbl := bytesOf_length ts
  go_enter Try.func24, Try.ntmps24
  go_wp2_with fail
  go_loopw [4, 5, 11] (fun l wv i wr => ∃ k hs vs ws, k ≤ ts.length ∧ i = .int .i64 (k : Int) ∧ Parted 5 30 w.heap.size wr l wv ((bytesOf ts).take k) hs vs ws ∧ Keeps w wr (fun k => w.heap.size ≤ k)) (fun _ _ i _ => ts.length - (intOf i).toNat)
  case atStart => exact ⟨0, [], [], [], Nat.zero_le _, rfl, Parted.nil _ _ _ _, Keeps.refl _ _⟩
  case round =>
    obtain ⟨k, hs, vs, ws, hk, rfl, R, K⟩ := hrel
    have hkl : ((bytesOf ts).take k).length = k := by simp [hbl]; omega
    by_cases hlt : k < ts.length
    · obtain ⟨bb, oo, rfl, hbb, hc⟩ := (h.keeps (Nat.le_refl _) K) k hlt
      have hsz := hz _ (List.getElem_mem hlt)
      obtain ⟨w1, c, w3, g, c2, w5, gw, cw, w7, gl, cl, e1, e2, e3, e4, e5, ⟨vs', ws', R7⟩, K7⟩ := roomy_round (P := Try.prog) 9 5 30 27 Try.underlying9 Try.underlying5 Try.underlying30 Try.underlying27 Try.infoE Try.infoB (by decide) R (by have := K.size; omega) ts[k] (by omega) (by rw [hkl]; omega)
      rw [hkl] at e3 e5 R7
      rw [← bytesOf_take ts k hlt] at R7
      have K' := K.trans K7 (fun _ _ x => x)
      clear R K K7 hkl hbl h hz
      generalize ts[k] = t at *
      go_wp2_with (first
        | (at_builtin; have _t := e2; refine wpList_append_run _ rfl (.tmp 17) (.tmp 18) 30 rfl rfl rfl e2 ?_; clear e2)
        | (at_builtin; have _t := e3; refine wpList_append_run _ rfl (.tmp 20) (.tmp 22) 27 rfl rfl rfl e3 ?_; clear e3)
        | (at_builtin; refine wpList_append_run _ rfl (.tmp 24) (.tmp 29) 27 rfl rfl rfl e5 ?_; clear e5))
      go_roundw
      case rel => exact ⟨k + 1, _, _, _, by omega, by go_num, R7, K'⟩
      case measure => simp [intOf]; omega
    · have hall : k = ts.length := by omega
      subst hall
      rw [List.take_of_length_le (by omega)] at R
      obtain ⟨w1, w3, gl, cl, e1, e2, L, K3⟩ := roomy_end (P := Try.prog) 5 30 27 Try.underlying5 Try.underlying30 Try.underlying27 Try.infoB (by decide) R (by have := K.size; omega) (by omega)
      have K' := K.trans K3 (fun _ _ x => x)
      clear R K K3 hkl h hz
      go_wp2_with (first | (at_builtin; refine wpList_append_run _ rfl (.tmp 32) (.tmp 35) 27 rfl rfl rfl e2 ?_))
      go_ret2
      exact ⟨gl, cl, _, hs, vs, ws, _, by rw [hbl]; rfl, L, K'⟩

def BytesPost (w : World) (xs : List (List UInt8)) (e : Ending) (w' : World) : Prop :=
  ∃ gl cl, e = .returned (.slice (some ⟨gl, 0, none⟩) xs.length cl) ∧ (∀ g, g < w.heap.size → PartsAt w' g gl xs) ∧ Keeps w w' (fun k => w.heap.size ≤ k)

/-- The head of a list of whatever elements of one cell. -/
theorem run_head {P : Program} (w : World) (t e : TypeId) {z : Value} {bytes : Nat} (ht : P.underlying t = some (.slice e)) (hi : (P.info? e).map (fun i => (i.zero, i.size, i.bytes)) = some (some z, 1, bytes)) (g len cap h : Nat) (hh : h ≤ cap) :
    (Instr.slice t (.slice (some ⟨g, 0, none⟩) len cap) none (some (.int .i64 (h : Int))) none).run P w = .ok (.slice (some ⟨g, 0, none⟩) h cap) w := by
  have ht' : P.underlying t = some (.slice (P.elem t)) := by simp [Program.elem, ht]
  have he : P.elem t = e := by simp [Program.elem, ht]
  obtain ⟨i, h1, h2, h3, h4⟩ := info_parts hi
  have hsz : (Go.sizeOf e).run P w = .ok 1 w := by simp [Go.sizeOf, typeInfo, h1, h3]
  rw [run_slice_h w t _ _ _ ht' .i64 _ (by omega) (by omega), he, hsz]
  simp [Result.andThen, sliced, Addr.add]

set_option maxHeartbeats 2000000 in
theorem bytes_any (w : World) (ao : Option Addr) (cap : Nat) (ts : List ByteArray) (h : StrsAt w w.heap.size ao ts) (hn : ts.length ≤ 1048576) (hz : ∀ t ∈ ts, t.size ≤ 1048576) :
    Calls Try.prog 9 #[.slice ao ts.length cap] w fun e w' => BytesPost w (bytesOf ts) e w' := by
  have hbl := bytesOf_length ts
  have hr := roomy_any w ao cap ts h hn hz
  go_enter Try.func9, Try.ntmps9
  go_wp2_with fail
  refine hr.mono ?_
  rintro e w' ⟨gl, cl, wv, hs, vs, ws, bh, rfl, L, K⟩
  clear hr h
  have hcl : ts.length ≤ cl := by
    have h2 := L.ol.2
    rcases h2 with ⟨h2, _⟩ | ⟨g, cap, cur, hv, _, _, hc, _⟩
    · cases h2
    · injection hv with _ _ hv
      subst hv
      omega
  have hhd := run_head (P := Try.prog) w' 27 30 Try.underlying27 Try.infoB gl ((bytesOf ts).length + 1) cl ts.length hcl
  have hp : ∀ g, g < w.heap.size → PartsAt w' g gl (bytesOf ts) := fun g hg => L.parts (fun x hx => by
    simp only [bytesOf, List.mem_map] at hx
    obtain ⟨t, ht, rfl⟩ := hx
    have := hz t ht
    simp
    omega) hg
  clear L hz
  go_wp2
  go_ret
  exact ⟨gl, cl, by rw [hbl]; rfl, hp, K⟩
end Go.Proofs.Ytlgmpnaalifegab
