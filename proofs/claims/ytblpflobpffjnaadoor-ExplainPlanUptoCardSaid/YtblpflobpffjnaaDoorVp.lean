
/-
  The program's Show and Read at every value and text.
-/
import Derived.Test.YtblpflobpffjnaaDoorVo
import Derived.Lib.AppendIntMem
namespace Go.Proofs.YtblpflobpffjnaaDoor
open Go.RowKit

/-- What the library's variables hold: MaxLen, the table of powers of ten, two errors. -/
structure VO (w : World) : Prop where
  m : MaxC w
  tab : Lib.TabIs Tryd.prog w "internal/strconv.uint64pow10" .u64 Lib.pow10Tab
  e4 : ∃ ev, w.cell? ⟨4, 0, none⟩ = some ev ∧ (ev = .nilIface ∨ ∃ te pe, ev = .iface te pe)
  e5 : ∃ ev, w.cell? ⟨5, 0, none⟩ = some ev ∧ (ev = .nilIface ∨ ∃ te pe, ev = .iface te pe)
theorem VO.below0 {w w' : World} (h : VO w) (hb : Below w.heap.size w w') : VO w' := by
  obtain ⟨e, he, h4⟩ := h.e4
  obtain ⟨e', he', h5⟩ := h.e5
  exact ⟨h.m.below0 hb, Lib.tabBelow_of_tabIs h.tab w' hb, ⟨e, (hb.cell (p := ⟨4, 0, none⟩) (cell_block he)).trans he, h4⟩, ⟨e', (hb.cell (p := ⟨5, 0, none⟩) (cell_block he')).trans he', h5⟩⟩
theorem fmt_any (i : Int) (h0 : -9223372036854775808 ≤ i) (h1 : i ≤ 9223372036854775807) (w : World) (hv : VO w) :
    Calls Tryd.prog 44 #[.int .i64 i, .int .i64 10] w (RetB w (.string ⟨(Lib.itoa i).toArray⟩)) := by
  refine (Tryd.strconv_FormatInt_10 i h0 h1 w hv.tab).mono fun e w' ⟨he, k, os, hw⟩ => ⟨he, ?_⟩
  subst hw
  exact ⟨rfl, rfl, rfl, by show w.heap.size ≤ (w.heap ++ os).size; simp, fun i hi => by show (w.heap ++ os)[i]? = _; rw [Array.getElem?_append_left hi]⟩
theorem parse_ok (s : ByteArray) (v : Int) (h : Lib.parseIntB 64 s.data.toList = .ok v) (w : World) (hs : s.size ≤ 10000) :
    Calls Tryd.prog 59 #[.string s, .int .i64 10, .int .i64 64] w (RetB w (.tuple #[.int .i64 v, .nilIface])) := by
  refine (Tryd.strconv_ParseInt_10_at64_ok s (by omega) v h w).mono fun e w' ⟨he, hw⟩ => ⟨he, ?_⟩
  rcases hw with rfl | ⟨t, rfl⟩
  · exact Below.refl _ _
  · exact Lib.bytesWorld_below _ _ _
def RetNo (w : World) (e : Ending) (w' : World) : Prop := ∃ x te pe, e = .returned (.tuple #[.int .i64 x, .iface te pe]) ∧ Below w.heap.size w w'
theorem parse_no (s : ByteArray) (h : ∀ v, Lib.parseIntB 64 s.data.toList ≠ .ok v) (w : World) (hs : s.size ≤ 10000) (hv : VO w) :
    Calls Tryd.prog 59 #[.string s, .int .i64 10, .int .i64 64] w (RetNo w) := by
  obtain ⟨e4, h4, k4⟩ := hv.e4
  obtain ⟨e5, h5, k5⟩ := hv.e5
  rcases hp : Lib.parseIntB 64 s.data.toList with v | _ | _
  · exact absurd hp (h v)
  · exact (Any.strconv_ParseInt_10_at64_syntax Tryd.laysC174 s (by omega) hp e4 w h4 k4).mono fun e w' ⟨N, he, _, _, hb⟩ => ⟨_, _, _, he, hb⟩
  · exact (Any.strconv_ParseInt_10_at64_range Tryd.laysC174 s (by omega) hp e5 w h5 k5).mono fun e w' ⟨N, he, _, _, hb⟩ => ⟨_, _, _, he, hb⟩

set_option maxHeartbeats 1000000 in
theorem show_any (v : Vl) (w : World) (hv : VO w) (hi0 : -9223372036854775808 ≤ v.i) (hi1 : v.i ≤ 9223372036854775807) (hs : v.s.size ≤ 10000) :
    Calls Tryd.prog 27 #[v.agg] w (RetB w (.string (showV v))) := by
  by_cases hk : v.k = 1
  · obtain ⟨k, i, s⟩ := v
    simp only at hk hi0 hi1
    subst hk
    have e : showV ⟨1, i, s⟩ = ⟨(Lib.itoa i).toArray⟩ := rfl
    rw [e]
    have HD := Lib.hid fun W h => fmt_any i hi0 hi1 W h
    generalize (⟨(Lib.itoa i).toArray⟩ : ByteArray) = t at *
    have HV := Lib.hid (fun o => hv.below0 ((Below.refl _ w).alloc (Nat.le_refl _) o))
    clear e hi0 hi1 hv
    unfold Vl.agg
    simp only
    go_enter Tryd.func27, Tryd.ntmps27
    go_wp2_with fail
    refine (HD.out _ (HV.out _)).mono ?_
    rintro e w1 ⟨rfl, hb1⟩
    go_wp2
    go_ret
    exact ⟨rfl, bto0 (ball (Below.refl _ _) _) hb1⟩
  · have e : showV v = showT v := by unfold showV; rw [if_neg hk]
    rw [e]
    exact show_x v w hv.m hs hk

theorem mid_eq (s : ByteArray) (h : 2 ≤ s.size) : midQ s = (s.data.toList.drop 1).take (s.data.toList.length - 2) := by
  unfold midQ
  rw [Lib.extract_data, len_size]
  congr 1
theorem gt_any (s : ByteArray) (b : Bool) (w : World) (h1 : (s.toList == [84, 82, 85, 69]) = b) (h2 : b = true ∨ (s.toList == [70, 65, 76, 83, 69]) = true) :
    Calls Tryd.prog 47 #[.string s] w (RetB w (.agg #[.int .u8 2, .int .i64 (if b then 1 else 0), .string ⟨#[]⟩])) := by
  cases b
  · have h3 := h2.resolve_left (by decide)
    clear h2
    go_enter Tryd.func47, Tryd.ntmps47
    go_wp2
    exact bodyPost_ret (v := .agg #[.int .u8 2, .int .i64 0, .string ⟨#[]⟩]) (by simp [results, Tryd.results47, go_sem]) rfl ⟨rfl, by
      repeat (first | exact ball (Below.refl _ _) _ | refine Below.setCell ?_ (by simp) _)⟩
  · clear h2
    go_enter Tryd.func47, Tryd.ntmps47
    go_wp2
    exact bodyPost_ret (v := .agg #[.int .u8 2, .int .i64 1, .string ⟨#[]⟩]) (by simp [results, Tryd.results47, go_sem]) rfl ⟨rfl, by
      repeat (first | exact ball (Below.refl _ _) _ | refine Below.setCell ?_ (by simp) _)⟩
def numQ (s : ByteArray) : Prop := s.size ≤ 1 ∨ ∃ h : 0 < s.size, s[0] ≠ 39
set_option maxHeartbeats 1000000 in
theorem guess_n (s : ByteArray) (w : World) (hv : VO w) (hs : s.size ≤ 10000) (hT : (s.toList == [84, 82, 85, 69]) = false) (hF : (s.toList == [70, 65, 76, 83, 69]) = false) (hq : (s.size : Int) ≤ 1 ∨ ∃ h : 0 < s.size, s[0] ≠ 39) :
    Calls Tryd.prog 47 #[.string s] w (RetB w (numG s.data.toList).agg) := by
  have hm1 := fun o => hv.below0 ((Below.refl _ w).alloc (Nat.le_refl _) o)
  have HM := Lib.hid hm1; clear hm1
  have HV := Lib.hid hv
  clear hv
  have hP : (∃ n, Lib.parseIntB 64 s.data.toList = .ok n) ∨ ∀ v, Lib.parseIntB 64 s.data.toList ≠ .ok v := by
    cases h : Lib.parseIntB 64 s.data.toList with
    | ok n => exact .inl ⟨n, rfl⟩
    | _ => exact .inr fun v h => by cases h
  rcases hP with ⟨n, hn⟩ | hn
  · have e : numG s.data.toList = ⟨1, n, ⟨#[]⟩⟩ := by unfold numG; rw [hn]
    rw [e]
    have HP := Lib.hid fun W => parse_ok s n hn W hs
    unfold Vl.agg
    clear hn e
    rcases hq with hq | ⟨h0, hq⟩
    · simp only
      go_enter Tryd.func47, Tryd.ntmps47
      go_wp2_with fail
      refine (HP.out _).mono ?_
      rintro e w1 ⟨rfl, hb1⟩
      have hz1 : w.heap.size < w1.heap.size := by have := hb1.size; simp at this; omega
      obtain ⟨c0, c1, c2, f0, f1, f2⟩ := (At3.new w 0 0 ⟨#[]⟩ 55).below hb1 (by simp)
      go_wp2_with fail
      exact bodyPost_ret (v := .agg #[.int .u8 1, .int .i64 n, .string ⟨#[]⟩]) (by simp [results, Tryd.results47, go_sem, c0, c1, c2]) rfl ⟨rfl, by
        repeat (first | exact bto0 (ball (Below.refl _ _) _) hb1 | refine Below.setCell ?_ (by simp) _)⟩
    · have hcb := (u8_ne hq).1
      have h0' : (0 : Int) < (s.size : Int) := by omega
      clear hq
      simp only
      go_enter Tryd.func47, Tryd.ntmps47
      go_wp2_with fail
      all_goals
        refine (HP.out _).mono ?_
        rintro e w1 ⟨rfl, hb1⟩
        have hz1 : w.heap.size < w1.heap.size := by have := hb1.size; simp at this; omega
        obtain ⟨c0, c1, c2, f0, f1, f2⟩ := (At3.new w 0 0 ⟨#[]⟩ 55).below hb1 (by simp)
        go_wp2_with fail
        exact bodyPost_ret (v := .agg #[.int .u8 1, .int .i64 n, .string ⟨#[]⟩]) (by simp [results, Tryd.results47, go_sem, c0, c1, c2]) rfl ⟨rfl, by
          repeat (first | exact bto0 (ball (Below.refl _ _) _) hb1 | refine Below.setCell ?_ (by simp) _)⟩
  · have e : numG s.data.toList = ⟨0, 0, ⟨#[]⟩⟩ := by
      unfold numG
      cases h : Lib.parseIntB 64 s.data.toList with
      | ok n => exact absurd h (hn n)
      | _ => rfl
    rw [e]
    have HP := Lib.hid fun W h => parse_no s hn W hs h
    unfold Vl.agg
    clear hn e
    rcases hq with hq | ⟨h0, hq⟩
    · simp only
      go_enter Tryd.func47, Tryd.ntmps47
      go_wp2_with fail
      refine (HP.out _ (HM.out _)).mono ?_
      rintro e w1 ⟨x, te, pe, rfl, hb1⟩
      have hz1 : w.heap.size < w1.heap.size := by have := hb1.size; simp at this; omega
      obtain ⟨c0, c1, c2, f0, f1, f2⟩ := (At3.new w 0 0 ⟨#[]⟩ 55).below hb1 (by simp)
      go_wp2_with fail
      exact bodyPost_ret (v := .agg #[.int .u8 0, .int .i64 0, .string ⟨#[]⟩]) (by simp [results, Tryd.results47, go_sem, c0, c1, c2]) rfl ⟨rfl, by
        repeat (first | exact bto0 (ball (Below.refl _ _) _) hb1 | refine Below.setCell ?_ (by simp) _)⟩
    · have hcb := (u8_ne hq).1
      have h0' : (0 : Int) < (s.size : Int) := by omega
      clear hq
      simp only
      go_enter Tryd.func47, Tryd.ntmps47
      go_wp2_with fail
      all_goals
        refine (HP.out _ (HM.out _)).mono ?_
        rintro e w1 ⟨x, te, pe, rfl, hb1⟩
        have hz1 : w.heap.size < w1.heap.size := by have := hb1.size; simp at this; omega
        obtain ⟨c0, c1, c2, f0, f1, f2⟩ := (At3.new w 0 0 ⟨#[]⟩ 55).below hb1 (by simp)
        go_wp2_with fail
        exact bodyPost_ret (v := .agg #[.int .u8 0, .int .i64 0, .string ⟨#[]⟩]) (by simp [results, Tryd.results47, go_sem, c0, c1, c2]) rfl ⟨rfl, by
          repeat (first | exact bto0 (ball (Below.refl _ _) _) hb1 | refine Below.setCell ?_ (by simp) _)⟩
end Go.Proofs.YtblpflobpffjnaaDoor
