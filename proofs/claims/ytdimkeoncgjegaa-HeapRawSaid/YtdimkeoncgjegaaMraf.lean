/-
  Several texts in one: Dt.
-/
import Derived.Test.YtdimkeoncgjegaaMrae
import Derived.Deep.RegionWith
import Derived.Deep.RegionHeld3
import Derived.BigGuardPart
/-
  The reference's disk: Left, Load.
-/
namespace Go.Proofs.Ytdimkeoncgjegaa
section
open Go.RowKit

theorem Try.infoS : (Try.prog.info? 9).map (fun i => (i.zero, i.size, i.bytes)) = some (some (.string ⟨#[]⟩), 1, 16) := by kernel_rfl
/-- A disk of the reference: its pages and marks, read below B. -/
def RD (w : World) (B n : Nat) (v : Value) (ps : List (List UInt8)) (T : List Bool) : Prop :=
  ∃ A c A2 c2, v = .agg #[.slice A n c, .slice A2 n c2] ∧ Reads w B 1 A n (sL ps) ∧ Reads w B 1 A2 n (tL T) ∧ n ≤ c ∧ n ≤ c2
theorem RD.hT {w : World} {B n : Nat} {v : Value} {ps : List (List UInt8)} {T : List Bool} (h : RD w B n v ps T) : T.length = n ∧ ps.length = n := by
  obtain ⟨A, c, A2, c2, rfl, h1, h2, _⟩ := h
  have a := h1.1; have b := h2.1
  rw [sL_len] at a; rw [tL_len] at b
  omega
theorem RD.below {w w' : World} {B n : Nat} {v : Value} {ps : List (List UInt8)} {T : List Bool} (h : RD w B n v ps T) {B' : Nat} (hb : Below B' w w') (hB : B ≤ B') : RD w' B n v ps T := by
  obtain ⟨A, c, A2, c2, rfl, h1, h2, h3⟩ := h
  exact ⟨A, c, A2, c2, rfl, h1.below (hb.mono hB), h2.below (hb.mono hB), h3⟩
theorem RD.more {w : World} {B B' n : Nat} {v : Value} {ps : List (List UInt8)} {T : List Bool} (h : RD w B n v ps T) (hB : B ≤ B') : RD w B' n v ps T := by
  obtain ⟨A, c, A2, c2, rfl, h1, h2, h3⟩ := h
  exact ⟨A, c, A2, c2, rfl, h1.more hB, h2.more hB, h3⟩
theorem Reads.bit {w : World} {B : Nat} {A : Option Addr} {n k : Nat} {T : List Bool} (hr : Reads w B 1 A n (tL T)) (hk : k < n) : ∃ ad b, A = some ad ∧ ad.block < B ∧ T[k]? = some b ∧ w.cell? (ad.add k) = some (.bool b) := by
  obtain ⟨ad, u, e, hb, hu, hc⟩ := hr.at_ hk
  unfold tL at hu
  rw [List.getElem?_map] at hu
  obtain ⟨b, h1, rfl⟩ := Option.map_eq_some_iff.1 hu
  exact ⟨ad, b, e, hb, h1, hc⟩
theorem Reads.text {w : World} {B : Nat} {A : Option Addr} {n k : Nat} {ps : List (List UInt8)} (hr : Reads w B 1 A n (sL ps)) (hk : k < n) : ∃ ad p, A = some ad ∧ ad.block < B ∧ ps[k]? = some p ∧ w.cell? (ad.add k) = some (.string (str p)) := by
  obtain ⟨ad, u, e, hb, hu, hc⟩ := hr.at_ hk
  unfold sL at hu
  rw [List.getElem?_map] at hu
  obtain ⟨b, h1, rfl⟩ := Option.map_eq_some_iff.1 hu
  exact ⟨ad, b, e, hb, h1, hc⟩

theorem rleft_any {w : World} {n : Nat} {v : Value} {ps : List (List UInt8)} {T : List Bool} (h : RD w w.heap.size n v ps T) (hn : n ≤ 1000000) :
    Calls Try.prog 33 #[v] w (RetB w (.int .i64 (freeN T : Nat))) := by
  have hT := h.hT.1
  obtain ⟨A, c, A2, c2, rfl, h1, h2, h3⟩ := h
  have HT := Lib.hid hT; clear hT
  have hX := Blk.new w 32 #[.slice A n c, .slice A2 n c2]
  have hr := h2.alloc (Nat.le_refl _) (.cells #[.slice A n c, .slice A2 n c2] 32)
  have hb := ball (Below.refl w.heap.size w) (.cells #[.slice A n c, .slice A2 n c2] 32)
  clear h1 h2 h3
  go_enter Try.func33, Try.ntmps33
  go_wp2
  obtain ⟨W, hW⟩ : ∃ W, (w.alloc (.cells #[.slice A n c, .slice A2 n c2] 32)) = W := ⟨_, rfl⟩
  rw [hW] at hX hr hb ⊢
  clear hW
  have c1 := hX.cell 1
  go_loop [3, 8] (fun u v => ∃ k : Nat, u = .int .i64 (freeN (T.take k) : Nat) ∧ v = .int .i64 k ∧ k ≤ n) (fun _ v => n - (intOf v).toNat)
  case atStart => exact ⟨0, rfl, rfl, by omega⟩
  case round =>
    obtain ⟨k, rfl, rfl, hk⟩ := hrel
    by_cases hki : k < n
    · have g1 : (0 : Int) ≤ (k : Int) := by omega
      have g2 : (k : Int) < (n : Int) := by omega
      obtain ⟨ad, b, rfl, _, hb, d2⟩ := hr.bit hki
      have fs := Lib.hid (free_succ T k b hb)
      have fl := free_le T k
      obtain ⟨F, hF⟩ : ∃ F, freeN (T.take k) = F := ⟨_, rfl⟩
      rw [hF] at fs fl ⊢
      clear hF hb
      cases b
      · go_wp2
        go_round
        case rel => exact ⟨k + 1, by rw [fs.out]; go_num, by go_num, by omega⟩
        case measure => simp [intOf]; omega
      · go_wp2
        go_round
        case rel => exact ⟨k + 1, by rw [fs.out]; go_num, by go_num, by omega⟩
        case measure => simp [intOf]; omega
    · obtain rfl : n = k := by omega
      have e1 : T.take n = T := List.take_of_length_le (by rw [HT.out]; exact Nat.le_refl _)
      rw [e1]
      go_wp2
      go_ret
      exact ⟨rfl, hb⟩
end
end Go.Proofs.Ytdimkeoncgjegaa
