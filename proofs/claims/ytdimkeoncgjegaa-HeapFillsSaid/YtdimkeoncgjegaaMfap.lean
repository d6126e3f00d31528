/-
  Several texts in one: Si.
-/
import Derived.Test.YtdimkeoncgjegaaMfao
/-
  Slots of a heap page: All.
-/
namespace Go.Proofs.Ytdimkeoncgjegaa
section
open Go.RowKit

theorem Try.infoBs : (Try.prog.info? 59).map (fun i => (i.zero, i.size, i.bytes)) = some (some (.slice none 0 0), 1, 24) := by kernel_rfl
/-- The records of a page. -/
def recs (l : List UInt8) : List (List UInt8) := (List.range (hdC l)).map (recK l)
theorem recs_len (l : List UInt8) : (recs l).length = hdC l := by simp [recs]
theorem recs_at (l : List UInt8) {k : Nat} (h : k < hdC l) : (recs l)[k]? = some (recK l k) := by
  unfold recs
  rw [List.getElem?_map, List.getElem?_range h]; rfl
def RetAll (w : World) (rs : List (List UInt8)) (m : Nat) (e : Ending) (w' : World) : Prop := ∃ g fs, e = .returned (.tuple #[.slice (some ⟨g, 0, none⟩) m m, .int .i64 0]) ∧ fs.length = m ∧ Blk w' g 59 (famV rs fs).toArray ∧ Fam w' w.heap.size rs fs ∧ w.heap.size ≤ g ∧ Below w.heap.size w w'
section
variable {w : World} {A : Option Addr} {n c B : Nat} {l : List UInt8}
theorem all_no (hp : isPage l = false) (hr : Reads w B 1 A n (bL l)) (hB : B ≤ w.heap.size) (hn : n ≤ 1000000) (hc : n ≤ c) : Calls Try.prog 57 #[.slice A n c] w (RetB w (.tuple #[.slice none 0 0, .int .i64 2])) := by
  have P := Lib.hid (places_any A n c B l w hr hB hn hc)
  unfold RetPl at P
  rw [hp] at P
  clear hr hp
  go_enter Try.func57, Try.ntmps57
  go_wp2_with fail
  refine P.out.mono ?_
  rintro e w1 ⟨Ap, m, cp, rfl, hm, hrp, hcp, hb⟩
  clear hm
  go_wp2
  go_ret2
  exact ⟨rfl, hb⟩
set_option maxRecDepth 100000 in
set_option maxHeartbeats 1000000 in
theorem all_ok (hp : isPage l = true) (hr : Reads w B 1 A n (bL l)) (hB : B ≤ w.heap.size) (hn : n ≤ 1000000) (hc : n ≤ c) : Calls Try.prog 57 #[.slice A n c] w (RetAll w (recs l) (hdC l)) := by
  have P := Lib.hid (places_any A n c B l w hr hB hn hc)
  unfold RetPl at P
  rw [hp] at P
  have hC6 := (page_end hp).2.1
  have REC : Hid (∀ i, i < hdC l → two l (8 + 4 * i) + two l (8 + 4 * i + 2) ≤ 512 ∧ (recK l i).length = two l (8 + 4 * i + 2) ∧ 0 < two l (8 + 4 * i + 2)) := by
    intro i hi
    obtain ⟨e1, e2, e3, e4, e5⟩ := page_end hp
    obtain ⟨f, _, f2, f3, f4, _⟩ := endK_some e1 hi
    exact ⟨by omega, recK_len e5 e1 hi, by omega⟩
  have hn5 : n = 512 := by have := hr.bytes_len; have := (page_end hp).2.2.2.2; omega
  have RA : Hid (∀ k, k < hdC l → (recs l)[k]? = some (recK l k)) := fun k h => recs_at l h
  have RL := Lib.hid (recs_len l)
  obtain ⟨C, hC⟩ : ∃ C, hdC l = C := ⟨_, rfl⟩
  rw [hC] at P REC hC6 RA RL ⊢
  clear hC
  subst hn5
  have hCI : (C : Int) ≤ 126 := by omega
  obtain ⟨i1, hi1, hz1, hs1, hy1⟩ := int_info8 Try.infoBs
  have mk1 : ∀ W, (Instr.makeSlice 22 (.int .i64 (C : Int)) (.int .i64 (C : Int))).run Try.prog W = .ok (.slice (some ⟨W.heap.size, 0, none⟩) C C) (W.alloc (.cells (famP (recs l) [] C) 59)) := by
    intro W
    have h := run_make (P := Try.prog) W 22 59 i1 (.slice none 0 0) Try.underlying22 hi1 hz1 .i64 .i64 (C : Int) (C : Int) (by omega) (by omega) (by rw [hy1]; omega) (by omega)
    rw [Int.toNat_natCast, hs1, Nat.mul_one] at h
    rw [← famP_zero]
    exact h
  clear hi1 hz1 hs1 hy1
  go_enter Try.func57, Try.ntmps57
  go_wp2_with fail
  refine P.out.mono ?_
  rintro e w1 ⟨Ap, m, cp, rfl, hm, hrp, hcp, hb⟩
  obtain rfl : m = C := hm
  go_wp2_with fail
  have hP0 : Blk (w1.alloc (.cells (famP (recs l) [] m) 59)) w1.heap.size 59 (famP (recs l) [] m) := Blk.new _ _ _
  have hb0 : Below w.heap.size w (w1.alloc (.cells (famP (recs l) [] m) 59)) := ball hb _
  have hz1 := hb.size
  have hrp0 := hrp.alloc (Nat.le_refl _) (.cells (famP (recs l) [] m) 59)
  have hz2 : (w1.alloc (.cells (famP (recs l) [] m) 59)).heap.size = w1.heap.size + 1 := by simp
  obtain ⟨g, hg⟩ : ∃ g, w1.heap.size = g := ⟨_, rfl⟩
  rw [hg] at hP0 hz1 hrp0 hz2 ⊢
  obtain ⟨W0, hW0⟩ : ∃ W0, (w1.alloc (.cells (famP (recs l) [] m) 59)) = W0 := ⟨_, rfl⟩
  rw [hW0] at hP0 hb0 hrp0 hz2 ⊢
  have hW1 : g ≤ W0.heap.size := by omega
  clear hg hW0 mk1 hrp hb P hz2
  go_loopw [21] (fun u21 wr => ∃ (i : Nat) (fs : List (Nat × Nat)), u21 = .int .i64 i ∧ i ≤ m ∧ fs.length = i ∧ Blk wr g 59 (famP (recs l) fs m) ∧ Fam wr w.heap.size (recs l) fs ∧ Below g W0 wr ∧ Below w.heap.size w wr) (fun u21 _ => m - (intOf u21).toNat)
  case atStart => exact ⟨0, [], rfl, by omega, rfl, hP0, Fam.nil _ _ _, Below.refl _ _, hb0⟩
  case round =>
    clear hP0 hb0
    obtain ⟨i, fs, rfl, hi, hfs, hB1, hF, hbW, hb⟩ := hrel
    have q0 : (0 : Int) ≤ (i : Int) := by omega
    have hrpW := hrp0.below hbW
    by_cases hlt : i < m
    · have q1 : (i : Int) < (m : Int) := by omega
      obtain ⟨ad, rfl, hab, c0, c1⟩ := hrpW.plc hlt
      obtain ⟨s1, s2, s3⟩ := REC.out i hlt
      have ra := RA.out i hlt
      have RC := Lib.hid fun W (hW : Below w.heap.size w W) => record_any (c := c) (two l (8 + 4 * i)) (two l (8 + 4 * i + 2)) (hr.below (hW.mono hB)) (Nat.le_trans hB hW.size) (by omega) hc s1
      have hLk : Hid ((l.drop (two l (8 + 4 * i))).take (two l (8 + 4 * i + 2)) = recK l i) := rfl
      rw [hLk.out] at RC
      obtain ⟨a, ha⟩ : ∃ a, two l (8 + 4 * i) = a := ⟨_, rfl⟩
      obtain ⟨b, hb'⟩ : ∃ b, two l (8 + 4 * i + 2) = b := ⟨_, rfl⟩
      rw [ha] at c0 RC
      rw [hb'] at c1 RC s2 s3
      clear ha hb' hLk s1
      obtain ⟨r, hr'⟩ : ∃ r, recK l i = r := ⟨_, rfl⟩
      rw [hr'] at ra RC s2
      clear hr' hrpW
      have HB := Lib.hid (And.intro hB1 (And.intro hF (And.intro hbW (And.intro hb (And.intro ra (And.intro s2 s3))))))
      have g1 := hB1.lt
      clear hB1 hF hbW ra hb s2 s3
      go_wp2_with fail
      refine (RC.out _ (ball HB.out.2.2.2.1 _)).mono ?_
      rintro e w5 ⟨A3, c3, rfl, own3, hc3, hb3⟩
      rw [HB.out.2.2.2.2.2.1] at own3 hc3 ⊢
      obtain ⟨g3, tl, rfl, hg3, _, _, _⟩ := own3.open_ HB.out.2.2.2.2.2.2
      have b03 : Below wr.heap.size wr w5 := bto0 (ball (Below.refl _ _) _) hb3
      have hB5 := HB.out.1.below b03 HB.out.1.lt
      have hd0 : w5.cell? ⟨g, i, none⟩ = some (.slice none 0 0) := by
        have hz := famP_at (recs l) fs m (by omega) (by rw [RL.out]; omega)
        rw [hfs] at hz
        exact (hB5.cell i).trans hz
      have hd1 := hB5.frozen i
      have hF5 : Fam w5 w.heap.size (recs l) (fs ++ [(g3, c3)]) := by
        have hx := own3
        rw [← HB.out.2.2.2.2.2.1] at hx
        refine HB.out.2.1.snoc b03 (by rw [hfs]; exact HB.out.2.2.2.2.1) hx (by rw [HB.out.2.2.2.2.2.1]; exact hc3) (by simp) HB.out.2.2.2.1.size
      have H5 := Lib.hid (And.intro hB5 (And.intro hF5 (And.intro b03 (And.intro (bto0 HB.out.2.2.2.1 b03) (HB.out.2.2.1.trans (b03.mono (Nat.le_of_lt g1)))))))
      clear hB5 hF5 own3 b03
      go_wp2
      go_roundw
      case rel =>
        refine ⟨i + 1, fs ++ [(g3, c3)], by go_num, by omega, by rw [List.length_append, hfs]; rfl, ?_, ?_, ?_, ?_⟩
        · have hz := H5.out.1.set_ i (.slice (some ⟨g3, 0, none⟩) b c3)
          have hy := famP_set (recs l) fs m (g3, c3) r (by omega) (by rw [hfs]; exact HB.out.2.2.2.2.1)
          rw [hfs, HB.out.2.2.2.2.2.1] at hy
          rw [hy] at hz
          exact hz
        · exact H5.out.2.1.store H5.out.1 (by decide) _ _
        · exact H5.out.2.2.2.2.setCell (Nat.le_refl _) _
        · exact H5.out.2.2.2.1.setCell (by simpa using hz1) _
      case measure => simp [intOf]; omega
    · obtain rfl : i = m := by omega
      have hend := famP_end (recs l) fs
      rw [hfs] at hend
      rw [hend] at hB1
      have HH := Lib.hid (And.intro hB1 (And.intro hF hb))
      clear hB1 hF hrpW
      go_wp2
      go_ret2
      exact ⟨g, fs, rfl, hfs, HH.out.1, HH.out.2.1, hz1, HH.out.2.2⟩
end
end
end Go.Proofs.Ytdimkeoncgjegaa
