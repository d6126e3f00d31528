/-
  The law's same: a disk that shows the reference's.
-/
import Derived.Test.YtcpbkaeilmabaaaDv
import Derived.Test.YtcpbkaeilmabaaaDt
namespace Go.Proofs.Ytcpbkaeilmabaaa
open Go.RowKit

theorem str_app (a b : List UInt8) : str a ++ str b = str (a ++ b) := by
  apply ByteArray.ext
  apply Array.toList_inj.1
  simp [str]
theorem flat_take (ps : List (List UInt8)) (k : Nat) (p : List UInt8) (h : ps[k]? = some p) : (ps.take (k + 1)).flatten = (ps.take k).flatten ++ p := by
  rw [List.take_add_one, h]; simp

set_option maxRecDepth 100000 in
set_option maxHeartbeats 2000000 in
theorem same_any {w : World} {g gb gt n : Nat} {ps : List (List UInt8)} {T : List Bool} {v : Value} (hd : DP w g gb gt n ps T) (hv : RD w w.heap.size n v ps T) (hn : n ≤ 5000) (h1n : 1 ≤ n) :
    Calls Try.prog 25 #[.pointer (some ⟨g, 0, none⟩), v] w (RetB w (.bool true)) := by
  obtain ⟨A, c, A2, c2, rfl, hr1, hr2, hc1, hc2⟩ := hv
  have hl := hd.lts
  have hX := Blk.new w 31 #[.slice A n c, .slice A2 n c2]
  have hb := ball (Below.refl w.heap.size w) (.cells #[.slice A n c, .slice A2 n c2] 31)
  have hz : (w.alloc (.cells #[.slice A n c, .slice A2 n c2] 31)).heap.size = w.heap.size + 1 := by simp
  go_enter Try.func25, Try.ntmps25
  go_wp2_with fail
  obtain ⟨WA, hW⟩ : ∃ W, (w.alloc (.cells #[.slice A n c, .slice A2 n c2] 31)) = W := ⟨_, rfl⟩
  rw [hW] at hX hb hz ⊢
  clear hW
  have hdA := hd.below hb hl.1 hl.2.1 hl.2.2
  have hvA : RD WA w.heap.size n (.agg #[.slice A n c, .slice A2 n c2]) ps T := ⟨A, c, A2, c2, rfl, hr1.below hb, hr2.below hb, hc1, hc2⟩
  have hzz : w.heap.size ≤ WA.heap.size := by omega
  have hlA := hdA.lts
  have LN := Lib.hid fun W (hW : Below WA.heap.size WA W) => len_any (hdA.below hW hlA.1 hlA.2.1 hlA.2.2).dk
  have LF := Lib.hid fun W (hW : Below WA.heap.size WA W) => left_any (hdA.below hW hlA.1 hlA.2.1 hlA.2.2) (by omega)
  have RF := Lib.hid fun W (hW : Below WA.heap.size WA W) => rleft_any ((hvA.below hW hzz).more (Nat.le_trans hzz hW.size)) (by omega)
  have HS : Hid (∀ W, Below WA.heap.size WA W → W.cell? ⟨w.heap.size, 0, none⟩ = some (.slice A n c) ∧ W.cell? ⟨w.heap.size, 1, none⟩ = some (.slice A2 n c2)) := fun W hW =>
    ⟨(hX.below hW hX.lt).cell 0, (hX.below hW hX.lt).cell 1⟩
  have HH := Lib.hid (And.intro hdA (And.intro hvA hb))
  have hzB : w.heap.size < WA.heap.size := by omega
  clear hX hd hr1 hr2 hdA hvA hb hz
  obtain ⟨F, hF⟩ : ∃ F, freeN T = F := ⟨_, rfl⟩
  rw [hF] at LF RF
  clear hF
  go_region_held3 (fun w' => w'.cell? ⟨w.heap.size, 0, none⟩ = some (.slice A n c) ∧ w'.cell? ⟨w.heap.size, 1, none⟩ = some (.slice A2 n c2) ∧ Below WA.heap.size WA w')
    (first | exact ⟨(HS.out _ (Below.refl _ _)).1, (HS.out _ (Below.refl _ _)).2, Below.refl _ _⟩ | exact ⟨(HS.out _ (Below.drew (Below.refl _ _))).1, (HS.out _ (Below.drew (Below.refl _ _))).2, Below.drew (Below.refl _ _)⟩ | exact ⟨(HS.out _ hb2).1, (HS.out _ hb2).2, hb2⟩ | assumption)
    (first
      | (go_at_call 33; refine (LN.out _ (by with_reducible repeat (first | exact Below.refl _ _ | exact hb2 | refine Below.drew ?_ | refine bdr ?_ _))).mono ?_; rintro e w1 ⟨rfl, rfl⟩)
      | (go_at_call 34; refine (LF.out _ (by with_reducible repeat (first | exact Below.refl _ _ | exact hb2 | refine Below.drew ?_ | refine bdr ?_ _))).mono ?_; rintro e w1 ⟨rfl, rfl⟩)
      | (go_at_call 64; refine (RF.out _ (by with_reducible repeat (first | exact Below.refl _ _ | exact hb2 | refine Below.drew ?_ | refine bdr ?_ _))).mono ?_; rintro e w2 ⟨rfl, hb2'⟩; have hb2 : Below WA.heap.size WA w2 := bto0 (by with_reducible repeat (first | exact Below.refl _ _ | exact hb2 | refine Below.drew ?_ | refine bdr ?_ _)) hb2'))
  have c0 := (HS.out _ hb2).1
  have bz : Below w.heap.size w w2 := HH.out.2.2.trans (hb2.mono hzz)
  clear hb2' LN LF RF
  go_wp2_with fail
  go_loopw [5, 26] (fun u5 u26 wr => ∃ k : Nat, u5 = .string (str (ps.take k).flatten) ∧ u26 = .int .i64 k ∧ k ≤ n ∧ Below WA.heap.size WA wr) (fun _ u26 _ => n - (intOf u26).toNat)
  case atStart => exact ⟨0, rfl, rfl, by omega, hb2⟩
  case round =>
    obtain ⟨k, rfl, rfl, hk, hbr⟩ := hrel
    have q0 : (0 : Int) ≤ (k : Int) := by omega
    have hdr := HH.out.1.below hbr hlA.1 hlA.2.1 hlA.2.2
    have bw : Below w.heap.size w wr := HH.out.2.2.trans (hbr.mono hzz)
    by_cases hlt : k < n
    · have q1 : (k : Int) < (n : Int) := by omega
      obtain ⟨A', c', A2', c2', e, hr1, _, _, _⟩ := HH.out.2.1.below hbr hzz
      simp only [Value.agg.injEq, Array.mk.injEq, List.cons.injEq, Value.slice.injEq, true_and, and_true] at e
      obtain ⟨⟨rfl, rfl⟩, rfl, rfl⟩ := e
      obtain ⟨ad, p, rfl, hab, hp, d1⟩ := hr1.text hlt
      have RK := Lib.hid (read_ok hdr k p hp (by omega))
      have hft := Lib.hid (flat_take ps k p hp)
      have hpl : p.length = 512 := HH.out.1.full p (List.mem_of_getElem? hp)
      have hfl : (ps.take k).flatten.length ≤ 5000 * 512 := by
        rw [pflat_len _ (fun q hq => HH.out.1.full q (List.mem_of_mem_take hq)), List.length_take]
        exact Nat.mul_le_mul_right _ (by omega)
      have hsz : ¬ (9223372036854775807 < (str (ps.take k).flatten).size + (str p).size) := by rw [str_size, str_size, hpl]; omega
      have Hpl := Lib.hid hpl
      clear hdr hr1 hfl hpl hp
      obtain ⟨s1, hs1⟩ : ∃ s1, (ps.take k).flatten = s1 := ⟨_, rfl⟩
      rw [hs1] at hsz hft ⊢
      clear hs1
      go_wp2_with fail
      refine RK.out.mono ?_
      rintro e w4 ⟨rfl, hB4, hb4⟩
      have cv := conv_blk (P := Try.prog) hB4 37 5 9 Try.underlying37 Try.underlying5 Try.underlying9 512 512 Hpl.out
      clear hB4
      go_wp2
      go_roundw
      case rel => exact ⟨k + 1, by rw [hft.out, str_app], by go_num, by omega, bto0 hbr hb4⟩
      case measure => simp [intOf]; omega
    · obtain rfl : n = k := by omega
      have e1 : ps.take n = ps := List.take_of_length_le (by rw [HH.out.1.hp]; exact Nat.le_refl _)
      rw [e1]
      have I := Lib.hid (image_any hdr.dk (by omega) h1n (by rw [bV_toList]; exact bL_one _))
      have hfl : ps.flatten.length = n * 512 := by rw [pflat_len ps HH.out.1.full, HH.out.1.hp]
      have Hfl := Lib.hid hfl
      clear hdr hfl e1
      go_wp2_with fail
      refine I.out.mono ?_
      rintro e w4 ⟨rfl, hB4, hb4⟩
      have cv := conv_blk (P := Try.prog) hB4 37 5 9 Try.underlying37 Try.underlying5 Try.underlying9 (n * 512) (n * 512) Hfl.out
      clear hB4
      go_wp2
      go_ret
      exact ⟨rfl, bto0 bw hb4⟩
end Go.Proofs.Ytcpbkaeilmabaaa
