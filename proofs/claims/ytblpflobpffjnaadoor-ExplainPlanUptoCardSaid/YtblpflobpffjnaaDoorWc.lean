
/-
  The program's Values.
-/
import Derived.Test.YtblpflobpffjnaaDoorWb
import Derived.Test.YtblpflobpffjnaaDoorVq
import Derived.Test.YtblpflobpffjnaaDoorBy
import Derived.Test.YtblpflobpffjnaaDoorWx
set_option linter.unusedSimpArgs false
set_option linter.unusedVariables false
namespace Go.Proofs.YtblpflobpffjnaaDoor
open Go.RowKit

theorem Tryd.info30 : (Tryd.prog.info? 55).map (fun i => (i.zero, i.size, i.bytes)) = some (some (.agg #[.int .u8 0, .int .i64 0, .string ⟨#[]⟩]), 3, 32) := by kernel_rfl
theorem vV_snoc30 (vs : List Vl) (v : Vl) : vV (vs ++ [v]) = vV vs ++ v.cells := by simp [vV]
theorem cells_one30 (v : Vl) : ∀ u ∈ v.cells, u.oneCell' = true := by
  intro u hu
  simp only [Vl.cells, List.mem_cons, List.not_mem_nil, or_false] at hu
  rcases hu with rfl | rfl | rfl <;> rfl
theorem ext_lo (R : List UInt8) (n : Nat) : (str R).extract n R.length = str (R.drop n) := by
  rw [extract_str, List.take_of_length_le (by rw [List.length_drop]; omega)]
theorem show_size30 (v : Vl) (hi0 : -9223372036854775808 ≤ v.i) (hi1 : v.i ≤ 9223372036854775807) (hs : v.s.size ≤ 4999) : (showV v).size ≤ 10000 := by
  rw [← len_size, show_list]
  unfold showL
  split
  · have := Lib.itoa_length_le v.i hi0 hi1; omega
  · split
    · split <;> decide
    · split
      · have := dblL_len v.s.data.toList
        have := len_size v.s
        simp only [List.length_cons, List.length_append, List.length_nil]
        omega
      · decide
theorem mayS_text {v : Vl} (h : MayS v) : v.s.size ≤ 48 := by
  rcases may_cases h.1 with rfl | ⟨i, rfl⟩ | rfl | rfl | ⟨s, rfl, hs⟩ <;> first | exact hs | exact Nat.zero_le _
theorem mayS_show {v : Vl} (h : MayS v) : (showL v).length ≤ 10000 := by
  rw [← show_list, len_size]
  exact show_size30 v h.2.1 h.2.2 (by have := mayS_text h; omega)
/-- A line whose parts are short. -/
def GoodL (l : List UInt8) : Prop := l.length ≤ 3000 ∨ ∃ vs, Ln l vs
theorem good_take {l : List UInt8} (h : GoodL l) : (l.take (shownN l)).length ≤ 10000 := by
  rcases h with h | ⟨vs, hne, rfl, hm⟩
  · rw [List.length_take]; omega
  · match vs, hne, hm with
    | [v], _, hm =>
      have hv := hm v (by simp)
      rw [List.length_take]
      have := mayS_show hv
      simp only [List.map_cons, List.map_nil, joinB]
      omega
    | v :: u :: r, _, hm =>
      have hv := hm v (by simp)
      rw [List.map_cons, joinB_cons _ (by simp), shown_show hv (.inr rfl), List.length_take]
      have := mayS_show hv
      omega
theorem good_next {l : List UInt8} (h : GoodL l) (hb : (l.drop (shownN l)).take 3 = [32, 124, 32]) : GoodL (l.drop (shownN l + 3)) := by
  rcases h with h | ⟨vs, hne, rfl, hm⟩
  · exact .inl (by rw [List.length_drop]; omega)
  · match vs, hne, hm with
    | [v], _, hm =>
      have e := shown_show (hm v (by simp)) (rest := []) (.inl rfl)
      rw [List.append_nil] at e
      simp only [List.map_cons, List.map_nil, joinB] at hb ⊢
      rw [e, List.drop_length] at hb
      cases hb
    | v :: u :: r, _, hm =>
      refine .inr ⟨u :: r, by simp, ?_, fun x hx => hm x (by simp [List.mem_cons.1 hx])⟩
      rw [List.map_cons, joinB_cons _ (by simp), shown_show (hm v (by simp)) (.inr rfl), ← List.drop_drop, List.drop_left]
      rfl
/-- Values, or none. -/
def RetVals (o : Option (List Vl)) (w : World) (e : Ending) (w' : World) : Prop :=
  Below w.heap.size w w' ∧ ((o = none ∧ ∃ A c, e = .returned (.tuple #[.slice A 0 c, .bool false])) ∨ ∃ l A c, o = some l ∧ e = .returned (.tuple #[.slice A l.length c, .bool true]) ∧ Reads w' w'.heap.size 3 A l.length (vV l))

set_option maxRecDepth 100000 in
set_option maxHeartbeats 4000000 in
theorem values_any (L : List UInt8) (w : World) (hv : VO w) (hg : GoodL L) (hs : L.length ≤ 1000000) :
    Calls Tryd.prog 14 #[.string (str L)] w (RetVals (valsP (L.length + 1) L) w) := by
  obtain ⟨i0, hi0, hz0, hs0, hy0⟩ := int_info8 Tryd.info30
  have HV := Lib.hid fun (W : World) (hb : Below w.heap.size w W) => hv.below0 hb
  have HG := Lib.hid hg
  have HSZ := Lib.hid hs
  clear hv hg hs
  go_enter Tryd.func14, Tryd.ntmps14
  go_wp2
  go_loopw [0, 4] (fun sv lv wr => ∃ (R : List UInt8) (f : Nat) (acc : List Vl), sv = .string (str R) ∧ Below w.heap.size w wr ∧ wr.ownsRow w.heap.size 55 3 lv acc.length (vV acc) ∧ GoodL R ∧ R.length < f ∧ R.length + acc.length ≤ L.length ∧ Hid (valsP (L.length + 1) L = (valsP f R).map (acc ++ ·))) (fun sv _ _ => match sv with | .string s => s.size | _ => 0)
  case atStart => exact ⟨L, L.length + 1, [], rfl, Below.refl _ _, World.ownsRow_nil _ _ _ _, HG.out, by omega, by simp, Lib.hid (by cases valsP (L.length + 1) L <;> simp)⟩
  case round =>
    obtain ⟨R, f, acc, rfl, hb, hown, hgr, hf, hlen, hval⟩ := hrel
    obtain ⟨f, rfl⟩ : ∃ f', f = f' + 1 := ⟨f - 1, by omega⟩
    have hsh := Lib.hid fun W => shown_any (str R) W (by rw [str_size]; have := HSZ.out; omega)
    rw [str_data] at hsh
    have hnle := shownN_le R
    have htk := good_take hgr
    have hnx := fun h => good_next hgr h
    have hrd := Lib.hid fun W h => read_any (str (R.take (shownN R))) W h (by rw [str_size]; exact htk)
    rw [str_data, read_eq _ (guess_bd _)] at hrd
    have hunf : valsP (f + 1) R = if (rreadL (R.take (shownN R))).2 = true then
      if shownN R = R.length then some [(rreadL (R.take (shownN R))).1]
      else if (R.drop (shownN R)).take 3 = [32, 124, 32] then (valsP f (R.drop (shownN R + 3))).map ((rreadL (R.take (shownN R))).1 :: ·)
      else none
    else none := by rw [valsP]
    have hno := rread_no (l := R.take (shownN R))
    generalize shownN R = n at *
    generalize hp : rreadL (R.take n) = p at *
    have c1 := cut_hi (P := Tryd.prog) (t := 9) Tryd.underlying9 R (R.take n) .i64 (n : Int) (by omega) (by omega) (by simp)
    have hsize := hb.size
    have rI : ((str R).size : Int) ≤ 1000000 := by have := HSZ.out; rw [str_size]; omega
    have rsz : (str R).size = R.length := str_size R
    have n0 : (0 : Int) ≤ (n : Int) := by omega
    have HGR := Lib.hid hgr
    have HF := Lib.hid (And.intro hf hlen)
    have HUN := Lib.hid hunf
    have HNX := Lib.hid hnx
    clear hgr hf hlen hunf hnx htk
    by_cases hok : p.2 = true
    · obtain ⟨⟨vk, vi, vs⟩, b⟩ := p
      simp only at hok
      subst hok
      unfold tupV Vl.agg at hrd
      simp only at hrd
      have hnn : (((n : Int) == (R.length : Int)) = true ∧ n = R.length) ∨ (((n : Int) == (R.length : Int)) = false ∧ n < R.length) := by
        rcases Nat.lt_or_ge n R.length with h | h
        · exact .inr ⟨beq_eq_false_iff_ne.2 (by omega), h⟩
        · exact .inl ⟨beq_iff_eq.2 (by omega), by omega⟩
      have HNN := Lib.hid hnn
      clear hnn hno hp
      go_wp2_with (first
        | (go_at_call 28; (with_reducible refine (hsh.out _).mono ?_); rintro e w' ⟨rfl, rfl⟩)
        | fail)
      refine (hrd.out _ (HV.out _ hb)).mono ?_
      rintro e w1 ⟨rfl, hb1⟩
      have hbw1 : Below w.heap.size w w1 := bto0 hb hb1
      have hown1 := own_below hown hb1
      have hsz1 := hbw1.size
      have P1 := Lib.hid (At3.new w1 vk vi vs 55)
      obtain ⟨d0, d1, d2, -, -, -⟩ := P1.out
      clear hown hb hb1 hsize
      rcases HNN.out with ⟨q, hq⟩ | ⟨q, hq⟩
      · go_wp2_with (at_builtin; go_loud (refine wpList_pushX (news := Vl.cells ⟨vk, vi, vs⟩) rfl _ _ 49 rfl w.heap.size 55 i0 _ 3 32 Tryd.underlying49 hi0 hz0 hs0 hy0 rfl (by decide) u4 acc.length _ rfl (hown1.alloc _) rfl _ rfl (by simp) rfl (cells_one30 _) (by have := HF.out; have := HSZ.out; omega) (by omega) (by simp; omega) ?_); intro v2 w2 hown2 hg2)
        have hbw2 : Below w.heap.size w w2 := belowX_grown (hown1.alloc _) (Nat.le_refl _) (by simp; omega) hg2 (ball hbw1 _)
        rw [← vV_snoc30] at hown2
        have hown3 : w2.ownsRow w.heap.size 55 3 v2 (acc ++ [(⟨vk, vi, vs⟩ : Vl)]).length (vV (acc ++ [⟨vk, vi, vs⟩])) := by simpa using hown2
        clear hown1 hown2 hg2 d0 d1 d2 P1 hsz1 hbw1
        have hfin : Hid (valsP (L.length + 1) L = some (acc ++ [⟨vk, vi, vs⟩])) := Lib.hid (by rw [hval.out, HUN.out, if_pos trivial, if_pos hq]; rfl)
        obtain ⟨A, c, rfl, hc⟩ := own_form hown3
        have hrds := Reads.of_own hown3
        clear hown3
        go_wp2
        go_ret2
        exact ⟨hbw2, .inr ⟨_, A, c, hfin.out, rfl, hrds⟩⟩
      · have c2 : (str R).extract n R.length = str (R.drop n) := ext_lo R n
        go_wp2_with (at_builtin; go_loud (refine wpList_pushX (news := Vl.cells ⟨vk, vi, vs⟩) rfl _ _ 49 rfl w.heap.size 55 i0 _ 3 32 Tryd.underlying49 hi0 hz0 hs0 hy0 rfl (by decide) u4 acc.length _ rfl (hown1.alloc _) rfl _ rfl (by simp) rfl (cells_one30 _) (by have := HF.out; have := HSZ.out; omega) (by omega) (by simp; omega) ?_); intro v2 w2 hown2 hg2)
        have hbw2 : Below w.heap.size w w2 := belowX_grown (hown1.alloc _) (Nat.le_refl _) (by simp; omega) hg2 (ball hbw1 _)
        rw [← vV_snoc30] at hown2
        have hown3 : w2.ownsRow w.heap.size 55 3 v2 (acc ++ [(⟨vk, vi, vs⟩ : Vl)]).length (vV (acc ++ [⟨vk, vi, vs⟩])) := by simpa using hown2
        clear hown1 hown2 hg2 d0 d1 d2 P1 hsz1 hbw1
        have hq2 : ¬ n = R.length := by omega
        have HP := Lib.hid fun W => Tryd.strings_HasPrefix (str (R.drop n)) ⟨#[32, 124, 32]⟩ W
        have hpe : Lib.hasPrefix (str (R.drop n)).data.toList (⟨#[32, 124, 32]⟩ : ByteArray).data.toList = decide ((R.drop n).take 3 = [32, 124, 32]) := by rw [str_data]; exact hp_bar _
        rw [hpe] at HP
        by_cases hbar : (R.drop n).take 3 = [32, 124, 32]
        · rw [decide_eq_true hbar] at HP
          have hl3 : n + 3 ≤ R.length := by
            have := congrArg List.length hbar
            rw [List.length_take, List.length_drop] at this
            simp at this
            omega
          have c3 : (str R).extract (n + 3) R.length = str (R.drop (n + 3)) := ext_lo R (n + 3)
          have hst : Hid (valsP (L.length + 1) L = (valsP f (R.drop (n + 3))).map ((acc ++ [⟨vk, vi, vs⟩]) ++ ·)) := Lib.hid (by
            rw [hval.out, HUN.out, if_pos trivial, if_neg hq2, if_pos hbar]
            cases valsP f (R.drop (n + 3)) <;> simp)
          have HNX2 := Lib.hid (HNX.out hbar)
          have HL3 := Lib.hid hl3
          have l3I : (n : Int) + 3 ≤ (R.length : Int) := by omega
          have HBW := Lib.hid (And.intro hbw2 hown3)
          clear hbar hpe hl3
          go_wp2_with (go_at_call 30; go_loud (with_reducible refine (HP.out _).mono ?_); rintro e w' ⟨rfl, rfl⟩)
          refine ⟨⟨R.drop (n + 3), f, acc ++ [⟨vk, vi, vs⟩], by rw [ext_lo], HBW.out.1, HBW.out.2, HNX2.out, ?_, ?_, hst⟩, ?_⟩
          · have := HF.out; have := HL3.out; rw [List.length_drop]; omega
          · have := HF.out; have := HL3.out; rw [List.length_drop, List.length_append]; simp; omega
          · have := HL3.out
            show ((str R).extract (n + 3) R.length).size < (str R).size
            rw [ext_lo, str_size, str_size, List.length_drop]; omega
        · rw [decide_eq_false hbar] at HP
          have hfin : Hid (valsP (L.length + 1) L = none) := Lib.hid (by rw [hval.out, HUN.out, if_pos trivial, if_neg hq2, if_neg hbar]; rfl)
          have HBW := Lib.hid hbw2
          clear hbar hpe hown3
          go_wp2_with (go_at_call 30; go_loud (with_reducible refine (HP.out _).mono ?_); rintro e w' ⟨rfl, rfl⟩)
          go_ret2
          exact ⟨HBW.out, .inl ⟨hfin.out, _, _, rfl⟩⟩
    · have hok' : p.2 = false := by simpa using hok
      have hpp := hno hok'
      have hfin : Hid (valsP (L.length + 1) L = none) := Lib.hid (by rw [hval.out, HUN.out, if_neg hok]; rfl)
      rw [hpp] at hrd
      unfold tupV Vl.agg vZero at hrd
      simp only at hrd
      clear hno hp hok hok' hpp hown
      go_wp2_with (first
        | (go_at_call 28; (with_reducible refine (hsh.out _).mono ?_); rintro e w' ⟨rfl, rfl⟩)
        | fail)
      refine (hrd.out _ (HV.out _ hb)).mono ?_
      rintro e w1 ⟨rfl, hb1⟩
      have hbw1 := Lib.hid (ball (bto0 hb hb1) (.cells #[.int .u8 0, .int .i64 0, .string ⟨#[]⟩] 55))
      go_wp2
      go_ret2
      exact ⟨hbw1.out, .inl ⟨hfin.out, _, _, rfl⟩⟩
end Go.Proofs.YtblpflobpffjnaaDoor
