/-
  Several texts in one: B38 B39.
-/
import Derived.Test.YtebobcbaloddaaaMubs
import Derived.Test.YtebobcbaloddaaaMubt
import Derived.Test.YtebobcbaloddaaaMuas
import Derived.Test.YtebobcbaloddaaaMuau
import Derived.Test.YtebobcbaloddaaaMuaf
import Derived.Test.YtebobcbaloddaaaMubf
import Derived.Test.YtebobcbaloddaaaMuaq
import Derived.Test.YtebobcbaloddaaaMuaj
import Derived.Deep.DeepCutAuto
/-
  The law's rows: a right tree is right.
-/
namespace Go.Proofs.Ytebobcbaloddaaa
section
set_option linter.unusedSimpArgs false
set_option linter.unusedVariables false
open Go.RowKit Go.Maps

theorem pages_flat {ps : List (List UInt8)} (hf : Full ps) {n : Nat} (hn : ps.length = n) : pagesOf ps.flatten n = ps := by
  apply List.ext_getElem?
  intro i
  unfold pagesOf
  rw [List.getElem?_map]
  rcases Nat.lt_or_ge i n with h | h
  · rw [List.getElem?_range h]
    have hp : ps[i]? = some (ps[i]'(by omega)) := List.getElem?_eq_getElem _
    rw [hp]
    simp only [Option.map_some]
    rw [pflat_page ps hf i _ hp]
  · rw [List.getElem?_eq_none (by simp; exact h), List.getElem?_eq_none (by omega)]; rfl
/-- A tree of a disk: right, with these entries. -/
def TreeOk (ps : List (List UInt8)) (root : Nat) (l : List En) (h : Nat) (d : Nd) : Prop :=
  1 ≤ h ∧ h ≤ 12 ∧ Sub ps h d 0 ∧ d.p = root ∧ d.L = l ∧ d.P.Nodup ∧ ∀ p ∈ d.P, p < ps.length
theorem tree_facts {ps : List (List UInt8)} {root : Nat} {l : List En} {h : Nat} {d : Nd} (t : TreeOk ps root l h d) (hf : Full ps) (hok : ∀ e ∈ l, e.ok) :
    chkP ps root = some (adv (ck0 ps.length) l d.P d.k h 0) ∧ d.k ≤ d.P.length ∧ d.P.length ≤ ps.length ∧ ∃ F : List Nat, F.length = d.k ∧ rbP ps 13 root 1 rs0 = some ⟨l, F, F.tail ++ [0], d.P, h⟩ := by
  obtain ⟨h1, h2, hs, hr, hL, hn, hp⟩ := t
  have hc := sub_chk hs h1 h2 hL hn hok hp
  rw [hr] at hc
  have hc' := hc
  unfold chkP at hc'
  cases hx : ckP ps 13 root 1 bnd0 (ck0 ps.length) with
  | none => rw [hx] at hc'; cases hc'
  | some st =>
    rw [hx] at hc'
    simp only [Option.bind_some] at hc'
    split at hc'
    · injection hc' with hc'
      have ck := ckP_ok rfl hf 13 root 1 bnd0 (ck0 ps.length) st (by omega) (ck0_ok _) hx
      rw [hc'] at ck
      have e1 : (adv (ck0 ps.length) l d.P d.k h 0).pgs = d.P.length := by simp [adv, ck0]
      have e2 : (adv (ck0 ps.length) l d.P d.k h 0).lv = d.k := by simp [adv, ck0]
      have q1 := ck.lv; have q2 := ck.pg; have q3 := trues_le (adv (ck0 ps.length) l d.P d.k h 0).met; have q4 := ck.ml
      rw [e1] at q1 q2
      rw [e2] at q1
      refine ⟨hc, q1, by omega, ?_⟩
      obtain ⟨F, k1, k2, k3⟩ := sub_rb h d 0 hs 13 1 (by omega) (by omega) (by omega) hn
      refine ⟨F, k1, ?_⟩
      have := k3 rs0 (fun p _ hq => by cases hq) (.inl rfl)
      show rbP ps 13 root 1 rs0 = _
      rw [← hr]
      refine this.trans ?_
      rw [show 1 + h - 1 = h from by omega]
      simp [radv, rs0, hL]
    · cases hc'
set_option maxRecDepth 100000 in
set_option maxHeartbeats 8000000 in
theorem right_any {w : World} {g gb gt n : Nat} {ps : List (List UInt8)} {T : List Bool} (hd : DP w g gb gt n ps T) (hn : n ≤ 1000) (hn1 : 1 ≤ n) {A : Option Addr} {m c : Nat} {l : List En} (hr : Reads w w.heap.size 3 A m (vE l)) (hm : m ≤ 100000) (hri : riseE l = true) (hok : ∀ e ∈ l, e.ok) {h root : Nat} {d : Nd} (t : TreeOk ps root l h d) :
    Calls Try.prog 11 #[.pointer (some ⟨g, 0, none⟩), .int .u32 root, .slice A m c] w (RetB w (.bool true)) := by
  have hfl := pflat_len ps hd.full
  rw [hd.hp] at hfl
  have hlm : l.length = m := by have := hr.1; rw [vE_len] at this; omega
  obtain ⟨f1, f2, f3, F, f4, f5⟩ := tree_facts t hd.full hok
  have hroot : root < n := by
    have := t.2.2.2.2.2.2 d.p
    rw [hd.hp, t.2.2.2.1] at this
    refine this ?_
    obtain ⟨h1, h2, hs, hr', hL, hn', hp⟩ := t
    rw [← hr']
    obtain ⟨k, rfl⟩ : ∃ k, h = k + 1 := ⟨h - 1, by omega⟩
    cases k with
    | zero => rw [hs.2.2.2.2.2.1]; simp
    | succ k =>
      obtain ⟨_, _, _, _, _, _, _, _, _, _, _, _, _, hP, _⟩ := hs
      rw [hP]; simp
  have hkn : d.k ≤ n := by rw [← hd.hp]; omega
  have hPn : d.P.length ≤ n := by rw [← hd.hp]; exact f3
  have hh : h ≤ 12 := t.2.1
  have IM := Lib.hid (image_any hd.dk (by omega) hn1 (by rw [bV_toList]; exact bL_one ps.flatten))
  have hpf := pages_flat hd.full hd.hp
  have LO := Lib.hid fun W => rload_ok ps.flatten n hn1 (by omega) hfl W
  rw [hpf] at LO
  have HT := Lib.hid (And.intro f1 (And.intro f4 (And.intro f5 (And.intro hri hok))))
  have HD := Lib.hid hd
  have HR := Lib.hid hr
  have HFL := Lib.hid hfl
  have HLM := Lib.hid hlm
  clear f1 f2 f3 f4 f5 hri hok hd hr hfl hlm hpf t
  go_enter Try.func11, Try.ntmps11
  go_wp2_with fail
  refine IM.out.mono ?_
  rintro e w1 ⟨rfl, hB1, hb1⟩
  have cv := conv_blk (P := Try.prog) hB1 50 5 9 Try.underlying50 Try.underlying5 Try.underlying9 (n * 512) (n * 512) HFL.out
  have LP := Lib.hid (LO.out w1)
  have H1 := Lib.hid hb1
  clear hB1 hb1
  go_wp2_with fail
  refine LP.out.mono ?_
  rintro e w2 ⟨A1, c1, A2, c2, rfl, r1, r2, hc1, hc2, -, -, hb2⟩
  have hz1 := H1.out.size
  have hz2 := hb2.size
  have hbD := ball (H1.out.trans (hb2.mono hz1)) (.cells #[.slice A1 n c1, .slice A2 n c2] 65)
  have hRD : RD (w2.alloc (.cells #[.slice A1 n c1, .slice A2 n c2] 65)) (w2.alloc (.cells #[.slice A1 n c1, .slice A2 n c2] 65)).heap.size n (.agg #[.slice A1 n c1, .slice A2 n c2]) ps (marksOf ps.flatten n) :=
    ⟨A1, c1, A2, c2, rfl, (r1.alloc (Nat.le_refl _) _).more (by simp), (r2.alloc (Nat.le_refl _) _).more (by simp), hc1, hc2⟩
  have CK := Lib.hid (rcheck_any (f := 13) (root := root) (s := ⟨l, F, F.tail ++ [0], d.P, h⟩) (by omega) hRD (by omega) HT.out.2.2.1 ⟨by have := HLM.out; simp only; omega, by have := HT.out.2.1; simp only; omega, by have := HT.out.2.1; simp only [List.length_append, List.length_tail, List.length_singleton]; omega, by simp only; omega⟩ rfl HT.out.2.2.2.1)
  have H2 := Lib.hid hbD
  clear r1 r2 hc1 hc2 hb2 hbD hRD cv
  go_wp2_with fail
  refine CK.out.mono ?_
  rintro e w4 ⟨⟨⟨Bl, ml, el⟩, ⟨Bf, mf, ef⟩, ⟨Bx, mx, ex⟩, ⟨Bp, mp, ep⟩⟩, rfl, ts4, hb4⟩
  have hls := ts4.lens
  simp only at hls
  obtain ⟨p1, p2, -, p4⟩ := hls
  have q1 : ml = m := by rw [p1]; exact HLM.out
  have q2 : mf = d.k := by rw [p2]; exact HT.out.2.1
  have q4 : mp = d.P.length := p4
  clear p1 p2 p4
  subst q1
  subst q2
  subst q4
  have hbT := ball (Below.refl w4.heap.size w4) (.cells #[.slice Bl ml el, .slice Bf d.k ef, .slice Bx mx ex, .slice Bp d.P.length ep, .int .i64 (h : Int), .bool false] 71)
  have hb5 := (H2.out.trans (hb4.mono H2.out.size)).trans (hbT.mono (Nat.le_trans H2.out.size hb4.size))
  have XT := Blk.new w4 71 #[.slice Bl ml el, .slice Bf d.k ef, .slice Bx mx ex, .slice Bp d.P.length ep, .int .i64 (h : Int), .bool false]
  have rL := ((Reads.of_own ts4.l).below hbT).more hbT.size
  have PN := Lib.hid (pnew_any (HD.out.lower hb5) (size := 3) (by omega) (by omega))
  have H5 := Lib.hid (And.intro hb5 (And.intro XT rL))
  clear hbT hb5 XT rL ts4 hb4 CK
  go_wp2_with fail
  obtain ⟨w5, hw5⟩ : ∃ x, w4.alloc (.cells #[.slice Bl ml el, .slice Bf d.k ef, .slice Bx mx ex, .slice Bp d.P.length ep, .int .i64 (h : Int), .bool false] 71) = x := ⟨_, rfl⟩
  rw [hw5] at PN H5 ⊢
  clear hw5
  refine PN.out.mono ?_
  rintro e w6 ⟨gp, gm, D, rfl, hp, hb6, k4, k5⟩
  have CH := Lib.hid (check_any hp (m := 0) (by omega) (by omega) (by omega) (by omega) (by omega) hb6.size root (by omega))
  rw [HT.out.1] at CH
  have H6 := Lib.hid hb6
  clear hp PN hb6 k4 k5
  go_wp2_with fail
  refine CH.out.mono ?_
  rintro e w7 ⟨_, tn, ht⟩
  rcases ht with ⟨st, A3, c3, hst, rfl, o7, hc3, -⟩ | ⟨hno, _⟩
  rotate_left
  · cases hno
  injection hst with hst
  have e1 : st.L = l := by rw [← hst]; simp [adv, ck0]
  have e2 : st.lv = d.k := by rw [← hst]; simp [adv, ck0]
  have e3 : st.pgs = d.P.length := by rw [← hst]; simp [adv, ck0]
  have e4 : st.hi = h := by rw [← hst]; rfl
  have hb67 : Below w5.heap.size w5 w7 := tn.below w5.heap.size w5 (Nat.le_refl _) H6.out
  have hz6 := H6.out.size
  have hz7 := tn.size
  rw [e1, HLM.out] at o7
  rw [e1, e2, e3, e4, HLM.out]
  have hb07 := H5.out.1.trans (hb67.mono H5.out.1.size)
  have XT7 := H5.out.2.1.below hb67 H5.out.2.1.lt
  have hb8 := ball (Below.refl w7.heap.size w7) (.cells #[.int .i64 (ml : Int), .int .i64 (d.k : Int), .int .i64 (d.P.length : Int), .int .i64 (h : Int)] 45)
  have XT8 := XT7.alloc (.cells #[.int .i64 (ml : Int), .int .i64 (d.k : Int), .int .i64 (d.P.length : Int), .int .i64 (h : Int)] 45)
  have XS8 := Blk.new w7 45 #[.int .i64 (ml : Int), .int .i64 (d.k : Int), .int .i64 (d.P.length : Int), .int .i64 (h : Int)]
  have rL8 := ((H5.out.2.2.below hb67).more hb67.size).below hb8 |>.more hb8.size
  have rl8 := ((HR.out.below hb07).more hb07.size).below hb8 |>.more hb8.size
  have rx8 := (Reads.of_own o7).below hb8 |>.more hb8.size
  have hb08 := hb07.trans (hb8.mono hb07.size)
  have S1 := Lib.hid (sameE_any Bl ml el A c l _ rL8 rl8 (by omega))
  have H8 := Lib.hid (And.intro XT8 (And.intro XS8 (And.intro rl8 (And.intro rx8 hb08))))
  have t0 : (w7.alloc (.cells #[.int .i64 (ml : Int), .int .i64 (d.k : Int), .int .i64 (d.P.length : Int), .int .i64 (h : Int)] 45)).cell? ⟨w4.heap.size, 0, none⟩ = some (.slice Bl ml el) := XT8.cell 0
  have t5 : (w7.alloc (.cells #[.int .i64 (ml : Int), .int .i64 (d.k : Int), .int .i64 (d.P.length : Int), .int .i64 (h : Int)] 45)).cell? ⟨w4.heap.size, 5, none⟩ = some (.bool false) := XT8.cell 5
  clear XT8 XS8 rL8 rl8 rx8 hb08 hb8 hb07 XT7 hb67 tn o7 hc3 hst e1 e2 e3 e4 CH
  unfold shV
  go_wp2_with fail
  refine S1.out.mono ?_
  rintro e w9 ⟨rfl, hb9⟩
  have XT9 := H8.out.1.below hb9 H8.out.1.lt
  have S2 := Lib.hid (sameE_any A3 ml c3 A c l w9 ((H8.out.2.2.2.1.below hb9).more hb9.size) ((H8.out.2.2.1.below hb9).more hb9.size) (by omega))
  have H9 := Lib.hid (And.intro XT9 (And.intro (H8.out.2.1.below hb9 H8.out.2.1.lt) (H8.out.2.2.2.2.trans (hb9.mono H8.out.2.2.2.2.size))))
  clear hb9 XT9 t0 t5 S1
  go_wp2_with fail
  refine S2.out.mono ?_
  rintro e wa ⟨rfl, hba⟩
  have XTa := H9.out.1.below hba H9.out.1.lt
  have XSa := H9.out.2.1.below hba H9.out.2.1.lt
  have hb0a := H9.out.2.2.trans (hba.mono H9.out.2.2.size)
  have t1 : wa.cell? ⟨w4.heap.size, 1, none⟩ = some (.slice Bf d.k ef) := XTa.cell 1
  have t3 : wa.cell? ⟨w4.heap.size, 3, none⟩ = some (.slice Bp d.P.length ep) := XTa.cell 3
  have t4 : wa.cell? ⟨w4.heap.size, 4, none⟩ = some (.int .i64 (h : Int)) := XTa.cell 4
  have s0 : wa.cell? ⟨w7.heap.size, 0, none⟩ = some (.int .i64 (ml : Int)) := XSa.cell 0
  have s1 : wa.cell? ⟨w7.heap.size, 1, none⟩ = some (.int .i64 (d.k : Int)) := XSa.cell 1
  have s2 : wa.cell? ⟨w7.heap.size, 2, none⟩ = some (.int .i64 (d.P.length : Int)) := XSa.cell 2
  have s3 : wa.cell? ⟨w7.heap.size, 3, none⟩ = some (.int .i64 (h : Int)) := XSa.cell 3
  have HA := Lib.hid hb0a
  clear XTa XSa hb0a hba S2
  go_wp2_with fail
  go_ret
  exact ⟨rfl, HA.out⟩
end
end Go.Proofs.Ytebobcbaloddaaa
/-
  Trees: the law BtreeBuilds.
-/
namespace Go.Proofs.Ytebobcbaloddaaa
section
set_option linter.unusedSimpArgs false
set_option linter.unusedVariables false
open Go.RowKit Go.Maps

/-- A slice that came in lies where something lies. -/
theorem sl_lt {P : Program} {W : World} {b0 n c : Nat} {t e : TypeId} {ad : Addr} (ht : P.underlying t = some (.slice e)) (h : Value.okWide P W .any b0 t (.slice (some ad) n c)) : ad.block < W.heap.size := by
  simp only [Value.okWide, ht, Cell.okWide, Cell.ok] at h
  obtain ⟨_, _, _, _, row, cells, hs, _⟩ := h
  rcases Nat.lt_or_ge ad.block W.heap.size with h1 | h1
  · exact h1
  · unfold World.shape? at hs
    rw [Array.getElem?_eq_none h1] at hs
    cases hs
def smN (l : List En) (i : Nat) : Bool := !smallB (l.take i)
theorem smN_succ {l : List En} {i : Nat} {x : En} (hx : l[i]? = some x) : smN l (i + 1) = (smN l i || decide (200 < x.s.size)) := by
  unfold smN smallB
  rw [List.take_add_one, hx, List.all_append]
  simp only [Option.toList_some, List.all_cons, List.all_nil, Bool.and_true, Bool.not_and]
  congr 1
  by_cases h : x.s.size ≤ 200
  · simp [h]
  · simp [h]; omega
theorem smN_end (l : List En) : smN l l.length = !smallB l := by unfold smN; rw [List.take_length]
/-- The tree of what was built. -/
theorem bd_tree {l : List En} {ps : List (List UInt8)} {T : List Bool} (hm : mayEn l = true) (hok : ∀ e ∈ l, e.ok) (hT : T.length = ps.length) (hb : ps.length ≤ 4095) {root : Nat} (hr : (bdP l ps T).2.2 = some root) :
    ∃ h d, TreeOk (bdP l ps T).1 root l h d ∧ ∀ p ∈ d.P, (bdP l ps T).2.1[p]? = some true := by
  obtain ⟨h, d, h1, h2, h3, h4, h5, h6, h7⟩ := (bd_ok hm hok hT hb).ok root hr
  refine ⟨h, d, ⟨h1, h2, h3, h4, h5, h6, fun p hp => ?_⟩, fun p hp => (h7 p hp).1⟩
  have := lt_of_at (h7 p hp).1
  rw [(bd_ok hm hok hT hb).lent, hT, ← (bd_ok hm hok hT hb).len] at this
  exact this
/-- An earlier tree stays right. -/
theorem tree_keep {l l2 : List En} {ps : List (List UInt8)} {T : List Bool} {root h : Nat} {d : Nd} (t : TreeOk ps root l h d) (hp : ∀ p ∈ d.P, T[p]? = some true) (hm : mayEn l2 = true) (hok : ∀ e ∈ l2, e.ok) (hT : T.length = ps.length) (hb : ps.length ≤ 4095) : TreeOk (bdP l2 ps T).1 root l h d := by
  obtain ⟨h1, h2, h3, h4, h5, h6, h7⟩ := t
  have K := bd_ok hm hok hT hb
  exact ⟨h1, h2, sub_frame h d 0 h3 fun p hp' => (K.keep p (by simp) (hp p hp')).1, h4, h5, h6, fun p hp' => by rw [K.len]; exact h7 p hp'⟩
theorem marks_len (L : List UInt8) (n : Nat) : (marksOf L n).length = n := by simp [marksOf]
/-- The law's rows, as they go on. -/
def Rw39 (w wx : World) (v : Value) : Prop := ∃ A m c l, v = .slice A m c ∧ Reads wx wx.heap.size 3 A m (vE l) ∧ m ≤ c ∧ c ≤ maxLen ∧ (∀ ad, A = some ad → ad.block < wx.heap.size) ∧ (∀ e ∈ l, e.ok) ∧ m ≤ 9000 ∧ Below w.heap.size w wx
theorem rw_of {w wx : World} {l0 : List En} {A : Option Addr} {c : Nat} (hok : ∀ e ∈ l0, e.ok) (ho : wx.ownsRow w.heap.size 38 3 (.slice A (sortP l0).length c) (sortP l0).length (vE (sortP l0))) (hb : Below w.heap.size w wx) : Rw39 w wx (.slice A (sortP l0).length c) := by
  obtain ⟨A', c', e, hc⟩ := own_form ho
  injection e with e1 _ e3
  subst e1; subst e3
  refine ⟨A, _, c, sortP l0, rfl, Reads.of_own ho, hc, own_cap ho, fun ad e => ?_, fun x hx => hok x ((sort_ok l0).mem x hx), by have := (sort_ok l0).len; omega, hb⟩
  subst e
  exact (World.ownsRow.lt ho ad.block rfl).2
set_option maxRecDepth 100000 in
set_option maxHeartbeats 16000000 in
theorem builds_any (a2 : Int) (a3 : Bool) (A0 : Option Addr) (n0 c0 : Nat) (l0 : List En) (A1 : Option Addr) (n1 c1 : Nat) (l1 : List En) (W : World)
    (s0 : Reads W W.heap.size 3 A0 n0 (vE l0)) (m0 : n0 ≤ c0) (x0 : c0 ≤ maxLen) (w0 : ∀ e ∈ l0, e.ok) (t0 : ∀ ad, A0 = some ad → ad.block < W.heap.size)
    (s1 : Reads W W.heap.size 3 A1 n1 (vE l1)) (m1 : n1 ≤ c1) (x1 : c1 ≤ maxLen) (w1 : ∀ e ∈ l1, e.ok) :
    Calls Try.prog 3 #[.slice A0 n0 c0, .slice A1 n1 c1, .int .i64 a2, .bool a3] W (RetB W (.bool true)) := by
  have FX := Lib.hid fun W => fixed11_any W
  have G0 := Lib.hid (greatE_any A0 n0 c0 l0 W W.heap.size s0 (fun v hv => (w0 v hv).1) (by omega))
  have G1 := Lib.hid (greatE_any A1 n1 c1 l1 W W.heap.size s1 (fun v hv => (w1 v hv).1) (by omega))
  obtain ⟨g0, hg0⟩ : ∃ b, grE 0 l0 = b := ⟨_, rfl⟩
  obtain ⟨g1, hg1⟩ : ∃ b, grE 0 l1 = b := ⟨_, rfl⟩
  rw [hg0] at G0
  rw [hg1] at G1
  have HG := Lib.hid (And.intro hg0 hg1)
  have HA := Lib.hid (And.intro s0 (And.intro m0 (And.intro x0 (And.intro w0 t0))))
  have HM := Lib.hid (And.intro s1 (And.intro m1 (And.intro x1 w1)))
  clear hg0 hg1 s0 m0 x0 w0 t0 s1 m1 x1 w1
  go_enter Try.func3, Try.ntmps3
  cases g0
  rotate_left
  · go_wp2_with fail
    refine G0.out.mono ?_
    rintro e w1 ⟨rfl, rfl⟩
    go_wp2_with fail
    refine (FX.out _).mono ?_
    rintro e w2 ⟨rfl, hb2⟩
    go_wp2_with fail
    go_ret
    exact ⟨rfl, hb2⟩
  cases g1
  rotate_left
  · go_wp2_with fail
    refine G0.out.mono ?_
    rintro e w1 ⟨rfl, rfl⟩
    go_wp2_with fail
    refine G1.out.mono ?_
    rintro e w1 ⟨rfl, rfl⟩
    go_wp2_with fail
    refine (FX.out _).mono ?_
    rintro e w2 ⟨rfl, hb2⟩
    go_wp2_with fail
    go_ret
    exact ⟨rfl, hb2⟩
  go_wp2_with fail
  refine G0.out.mono ?_
  rintro e w1 ⟨rfl, rfl⟩
  go_wp2_with fail
  refine G1.out.mono ?_
  rintro e w1 ⟨rfl, rfl⟩
  by_cases hp1 : a2 < 1
  · go_wp2_with fail
    refine (FX.out _).mono ?_
    rintro e w2 ⟨rfl, hb2⟩
    go_wp2_with fail
    go_ret
    exact ⟨rfl, hb2⟩
  by_cases hp3 : 300 < a2
  · have hp1' : 1 ≤ a2 := by omega
    go_wp2_with fail
    refine (FX.out _).mono ?_
    rintro e w2 ⟨rfl, hb2⟩
    go_wp2_with fail
    go_ret
    exact ⟨rfl, hb2⟩
  obtain ⟨n, rfl⟩ : ∃ n : Nat, a2 = (n : Int) := ⟨a2.toNat, by omega⟩
  have hn1 : 1 ≤ n := by omega
  have hn3 : n ≤ 300 := by omega
  have hI1 : (1 : Int) ≤ (n : Int) := by omega
  have hI3 : (n : Int) ≤ 300 := by omega
  have b0 := sumE_bd HG.out.1
  have b1 := sumE_bd HG.out.2
  have l0n : n0 ≤ 9000 := by have := HA.out.1.1; rw [vE_len] at this; omega
  have l1n : n1 ≤ 9000 := by have := HM.out.1.1; rw [vE_len] at this; omega
  have SO0 := Lib.hid (sorted_any A0 n0 c0 l0 W HA.out.1 (by omega))
  clear b0 b1 hp1 hp3
  go_upto_if 34 with fail
  go_cut [0] (fun v0 wx => Rw39 W wx v0)
  case first =>
    cases a3
    · go_wp2_with fail
      go_meet
      case rel => exact ⟨A0, n0, c0, l0, rfl, HA.out.1, HA.out.2.1, HA.out.2.2.1, HA.out.2.2.2.2, HA.out.2.2.2.1, l0n, Below.refl _ _⟩
    · go_wp2_with fail
      refine SO0.out.mono ?_
      rintro e w1 ⟨A, c, rfl, ho, hb⟩
      have HRW := Lib.hid (rw_of HA.out.2.2.2.1 ho hb)
      clear ho hb
      go_wp2_with fail
      go_meet
      case rel => exact HRW.out
  case rest =>
    obtain ⟨A, m, c, l, rfl, hr, hmc, hcx, hAx, hok, hm9, hbx⟩ := hcut
    rename World => wx
    have hlm : l.length = m := by have := hr.1; rw [vE_len] at this; omega
    have HL := Lib.hid (And.intro hr (And.intro hmc (And.intro hcx (And.intro hAx (And.intro hok (And.intro hbx hlm))))))
    clear hr hmc hcx hAx hok hbx hlm SO0
    have ND := Lib.hid (newDP n hn1 (by omega) wx)
    have hpl := pagesOf_len (zb n) n
    have hTl := marks_len (zb n) n
    generalize pagesOf (zb n) n = ps at *
    generalize marksOf (zb n) n = T at *
    have HPL := Lib.hid (And.intro hpl hTl)
    clear hpl hTl
    go_wp2_with fail
    refine ND.out.mono ?_
    rintro e w2 ⟨g, gb, gt, rfl, hd, k1, k2, k3, hb2⟩
    have LE := Lib.hid (left_any hd (by omega))
    have hz2 := hb2.size
    have hr2 := (HL.out.1.below hb2).more hz2
    have hApt : Apt A gb gt := fun ad e => by have := HL.out.2.2.2.1 ad e; exact ⟨by omega, by omega⟩
    have H2 := Lib.hid (And.intro hd (And.intro hb2 (And.intro hr2 (And.intro hApt (And.intro k2 k3)))))
    clear hd hb2 hr2 hApt k1 k2 k3 ND
    obtain ⟨bs, hbs⟩ : ∃ b, smallB l = b := ⟨_, rfl⟩
    obtain ⟨br, hbr⟩ : ∃ b, riseE l = b := ⟨_, rfl⟩
    have hmay : mayEn l = (bs && br) := by rw [may_both, hbs, hbr]
    have HSB := Lib.hid (And.intro hbs (And.intro hbr hmay))
    clear hbs hbr hmay
    go_wp2_with fail
    refine LE.out.mono ?_
    rintro e w2' ⟨rfl, rfl⟩
    obtain ⟨left, hleft⟩ : ∃ q, freeN T = q := ⟨_, rfl⟩
    rw [hleft] at LE ⊢
    have HLE := Lib.hid hleft
    clear hleft
    by_cases hall : (bs && br) = true
    · obtain ⟨rfl, rfl⟩ : bs = true ∧ br = true := by simpa using hall
      clear hall
      have BU := Lib.hid (build_any H2.out.1 (by omega) H2.out.2.2.1 H2.out.2.2.2.1 HL.out.2.2.2.2.1 HSB.out.2.2 (by omega) HL.out.2.1 HL.out.2.2.1)
      have hbt := fun root => bd_tree (root := root) HSB.out.2.2 HL.out.2.2.2.2.1 (HPL.out.2.trans HPL.out.1.symm) (by rw [HPL.out.1]; omega)
      have hno := (bd_ok HSB.out.2.2 HL.out.2.2.2.2.1 (HPL.out.2.trans HPL.out.1.symm) (by rw [HPL.out.1]; omega)).no
      have hl1 := (bd_ok HSB.out.2.2 HL.out.2.2.2.2.1 (HPL.out.2.trans HPL.out.1.symm) (by rw [HPL.out.1]; omega)).len
      have hl2 := (bd_ok HSB.out.2.2 HL.out.2.2.2.2.1 (HPL.out.2.trans HPL.out.1.symm) (by rw [HPL.out.1]; omega)).lent
      rw [HLE.out, HL.out.2.2.2.2.2.2] at hno
      rw [HPL.out.1] at hl1
      rw [HPL.out.2] at hl2
      generalize bdP l ps T = R at *
      obtain ⟨R1, R2, R3⟩ := R
      simp only at hbt hno hl1 hl2
      have HBT := Lib.hid (And.intro hbt (And.intro hno (And.intro hl1 hl2)))
      clear hbt hno hl1 hl2
      go_wp2_with fail
      refine BU.out.mono ?_
      rintro e w3 ⟨hd3, hL3, hres⟩
      simp only at hd3 hres
      have hr3 := H2.out.2.2.1.lf hL3 H2.out.2.2.2.1
      have hb3 := H2.out.2.1.trans (hL3.below wx.heap.size H2.out.2.2.2.2.1 H2.out.2.2.2.2.2 hz2)
      have H3 := Lib.hid (And.intro hd3 (And.intro hr3 (HL.out.2.2.2.2.2.1.trans (hb3.mono HL.out.2.2.2.2.2.1.size))))
      clear hd3 hr3 hb3 hL3 BU
      rcases hres with ⟨root, hroot, rfl⟩ | ⟨hroot, rfl⟩
      ·
        have HRO := Lib.hid hroot
        clear hroot
        go_wp2_with fail
        go_loopw [14, 52] (fun v14 v52 wr => ∃ i : Nat, v52 = .int .i64 (i : Int) ∧ i ≤ m ∧ v14 = .bool (smN l i) ∧ Below w3.heap.size w3 wr) (fun _ v52 _ => m - (intOf v52).toNat)
        case atStart => exact ⟨0, rfl, Nat.zero_le _, rfl, Below.refl _ _⟩
        case round =>
          obtain ⟨i, rfl, him, rfl, hbi⟩ := hrel
          have i0' : (0 : Int) ≤ (i : Int) := by omega
          by_cases hlt : i < m
          · have i1 : (i : Int) < (m : Int) := by omega
            obtain ⟨x, hx⟩ : ∃ x, l[i]? = some x := ⟨_, List.getElem?_eq_getElem (by rw [HL.out.2.2.2.2.2.2]; exact hlt)⟩
            obtain ⟨ax, hax, hab, _, HXX⟩ := ent_of H3.out.2.1 hx
            have hsn := Lib.hid (smN_succ hx)
            obtain ⟨u0, u1, u2⟩ := HXX wr hbi
            have HB := Lib.hid (ball hbi (.cells #[.string x.s, .int .u32 x.p, .int .u16 x.q] 38))
            obtain ⟨sb, hsb⟩ : ∃ b, smN l i = b := ⟨_, rfl⟩
            obtain ⟨sb2, hsb2⟩ : ∃ b, smN l (i + 1) = b := ⟨_, rfl⟩
            rw [hsb, hsb2] at hsn
            rw [hsb]
            have Hs2 := Lib.hid hsb2
            have Hax := Lib.hid hax
            clear hsb hsb2 hx HXX hbi hax
            obtain ⟨xs, xp, xq⟩ := x
            simp only at u0 u1 u2 HB hsn
            obtain ⟨Ai, hAi⟩ : ∃ Ai, A = Ai := ⟨_, rfl⟩
            have hAi2 : A = some ax := Hax.out
            subst hAi2
            clear hAi
            cases sb
            · by_cases hsz : 200 < xs.size
              · have zI : (200 : Int) < (xs.size : Int) := by omega
                have hf := Lib.hid (show sb2 = true by rw [hsn.out]; simp [hsz])
                clear hsz hsn
                go_wp2_with fail
                go_roundw
                case rel => exact ⟨i + 1, by go_num, by omega, by rw [Hs2.out, hf.out], HB.out⟩
                case measure => simp [intOf]; omega
              · have zI : (xs.size : Int) ≤ 200 := by omega
                have hdx := Lib.hid (show decide (200 < (xs.size : Int)) = false from decide_eq_false (by omega))
                have hf := Lib.hid (show sb2 = false by rw [hsn.out]; simp; omega)
                clear hsz hsn
                go_wp2_with fail
                go_roundw
                case rel => exact ⟨i + 1, by go_num, by omega, by rw [Hs2.out, hf.out]; first | rfl | rw [hdx.out], HB.out⟩
                case measure => simp [intOf]; omega
            · have hf := Lib.hid (show sb2 = true by rw [hsn.out]; rfl)
              clear hsn
              go_wp2_with fail
              go_roundw
              case rel => exact ⟨i + 1, by go_num, by omega, by rw [Hs2.out, hf.out], HB.out⟩
              case measure => simp [intOf]; omega
          · have i1 : (m : Int) ≤ (i : Int) := by omega
            have hsm : smN l i = !true := by
              rw [show i = l.length by rw [HL.out.2.2.2.2.2.2]; omega, smN_end, HSB.out.1]
            rw [hsm]
            have RI := Lib.hid (rriseE_any A m c l wr ((H3.out.2.1.below hbi).more hbi.size) (by omega))
            rw [HSB.out.2.1] at RI
            have H4 := Lib.hid (And.intro (H3.out.1.lower hbi) (And.intro ((H3.out.2.1.below hbi).more hbi.size) (H3.out.2.2.trans (hbi.mono H3.out.2.2.size))))
            clear hbi hsm
            go_wp2_with fail
            refine RI.out.mono ?_
            rintro e w4 ⟨rfl, hb4⟩
            have H5 := Lib.hid (And.intro (H4.out.1.lower hb4) (And.intro ((H4.out.2.1.below hb4).more hb4.size) (H4.out.2.2.trans (hb4.mono H4.out.2.2.size))))
            clear hb4 RI
            obtain ⟨h, d, ht, hmk⟩ := HBT.out.1 root HRO.out
            have RT := Lib.hid (right_any (root := root) (c := c) H5.out.1 (by omega) hn1 H5.out.2.1 (by omega) HSB.out.2.1 HL.out.2.2.2.2.1 ht)
            have HTR := Lib.hid (And.intro ht hmk)
            clear ht hmk
            go_wp2_with fail
            refine RT.out.mono ?_
            rintro e w5 ⟨rfl, hb5⟩
            have H6 := Lib.hid (And.intro (H5.out.1.lower hb5) (And.intro ((H5.out.2.1.below hb5).more hb5.size) (H5.out.2.2.trans (hb5.mono H5.out.2.2.size))))
            have SO1 := Lib.hid (sorted_any A1 n1 c1 l1 w5 ((HM.out.1.below H6.out.2.2).more H6.out.2.2.size) (by omega))
            clear hb5 RT
            go_wp2_with fail
            refine SO1.out.mono ?_
            rintro e w6 ⟨A7, c7, rfl, o7, hb6⟩
            have H7 := Lib.hid (And.intro (H6.out.1.lower hb6) (And.intro ((H6.out.2.1.below hb6).more hb6.size) (H6.out.2.2.trans (hb6.mono H6.out.2.2.size))))
            have hAp7 : Apt A7 gb gt := fun ad e => by
              have h1 := own_hi o7 ad e
              have h2 := H6.out.1.lts
              exact ⟨by omega, by omega⟩
            have hok7 : ∀ e ∈ sortP l1, e.ok := fun e he => HM.out.2.2.2 e ((sort_ok l1).mem e he)
            have hlen7 := (sort_ok l1).len
            obtain ⟨A7', c7', e7, hc7⟩ := own_form o7
            injection e7 with e71 _ e73
            subst e71; subst e73
            have BU2 := Lib.hid (build_any H7.out.1 (by omega) (Reads.of_own o7) hAp7 hok7 (sort_may l1) (by omega) hc7 (own_cap o7))
            have hRT : R2.length = R1.length := by rw [HBT.out.2.2.2, HBT.out.2.2.1]
            have hR4 : R1.length ≤ 4095 := by rw [HBT.out.2.2.1]; omega
            have hbt2 := fun root2 => bd_tree (root := root2) (sort_may l1) hok7 hRT hR4
            have hkp := tree_keep HTR.out.1 HTR.out.2 (sort_may l1) hok7 hRT hR4
            have hri7 : riseE (sortP l1) = true := by have := sort_may l1; rw [may_both, Bool.and_eq_true] at this; exact this.2
            obtain ⟨S, hS⟩ : ∃ S, sortP l1 = S := ⟨_, rfl⟩
            have HSS := Lib.hid hS
            rw [hS] at BU2 hbt2 hkp hok7 hri7 hlen7 ⊢
            generalize bdP S R1 R2 = RR at *
            obtain ⟨Q1, Q2, Q3⟩ := RR
            simp only at hbt2 hkp
            have HB2 := Lib.hid (And.intro hbt2 (And.intro hkp (And.intro hok7 (And.intro hri7 hlen7))))
            have hSl : S.length ≤ 400 := hlen7
            clear hbt2 hkp hok7 hri7 hlen7 hAp7 hc7 o7 hb6 hRT hR4 SO1 hS
            go_wp2_with fail
            refine BU2.out.mono ?_
            rintro e w7 ⟨hd7, hL7, hres⟩
            simp only at hd7 hres
            have hr7 := H7.out.2.1.lf hL7 H2.out.2.2.2.1
            have hb7 := H7.out.2.2.trans (hL7.below W.heap.size (Nat.le_trans HL.out.2.2.2.2.2.1.size H2.out.2.2.2.2.1) (Nat.le_trans HL.out.2.2.2.2.2.1.size H2.out.2.2.2.2.2) H7.out.2.2.size)
            have H8 := Lib.hid (And.intro hd7 (And.intro hr7 hb7))
            clear hd7 hr7 hb7 hL7 BU2
            rcases hres with ⟨root2, hroot2, rfl⟩ | ⟨hroot2, rfl⟩
            · have HR2 := Lib.hid hroot2
              clear hroot2
              go_wp2_with fail
              refine (FX.out _).mono ?_
              rintro e w8 ⟨rfl, hb8⟩
              have H9 := Lib.hid (And.intro (H8.out.1.lower hb8) (And.intro ((H8.out.2.1.below hb8).more hb8.size) (H8.out.2.2.trans (hb8.mono H8.out.2.2.size))))
              have SO2 := Lib.hid (sorted_any A1 n1 c1 l1 w8 ((HM.out.1.below H9.out.2.2).more H9.out.2.2.size) (by omega))
              rw [HSS.out] at SO2
              clear hb8
              go_wp2_with fail
              refine SO2.out.mono ?_
              rintro e w9 ⟨A9, c9, rfl, o9, hb9⟩
              obtain ⟨h2, d2, ht2, hmk2⟩ := HB2.out.1 root2 HR2.out
              have HA9 := Lib.hid (And.intro (H9.out.1.lower hb9) (And.intro ((H9.out.2.1.below hb9).more hb9.size) (H9.out.2.2.trans (hb9.mono H9.out.2.2.size))))
              have RT2 := Lib.hid (right_any (root := root2) (c := c9) HA9.out.1 (by omega) hn1 (Reads.of_own o9) (by omega) HB2.out.2.2.2.1 HB2.out.2.2.1 ht2)
              clear hb9 o9 ht2 hmk2 SO2
              go_wp2_with fail
              refine RT2.out.mono ?_
              rintro e wa ⟨rfl, hba⟩
              have HAa := Lib.hid (And.intro (HA9.out.1.lower hba) (And.intro ((HA9.out.2.1.below hba).more hba.size) (HA9.out.2.2.trans (hba.mono HA9.out.2.2.size))))
              have RT3 := Lib.hid (right_any (root := root) (c := c) HAa.out.1 (by omega) hn1 HAa.out.2.1 (by omega) HSB.out.2.1 HL.out.2.2.2.2.1 HB2.out.2.1)
              clear hba RT2
              go_wp2_with fail
              refine RT3.out.mono ?_
              rintro e wb ⟨rfl, hbb⟩
              have HF := Lib.hid (HAa.out.2.2.trans (hbb.mono HAa.out.2.2.size))
              clear hbb RT3
              go_wp2_with fail
              go_ret
              exact ⟨rfl, HF.out⟩
            · clear hroot2
              go_wp2_with fail
              refine (FX.out _).mono ?_
              rintro e w8 ⟨rfl, hb8⟩
              have HAa := Lib.hid (And.intro (H8.out.1.lower hb8) (And.intro ((H8.out.2.1.below hb8).more hb8.size) (H8.out.2.2.trans (hb8.mono H8.out.2.2.size))))
              have RT3 := Lib.hid (right_any (root := root) (c := c) HAa.out.1 (by omega) hn1 HAa.out.2.1 (by omega) HSB.out.2.1 HL.out.2.2.2.2.1 HB2.out.2.1)
              clear hb8
              go_wp2_with fail
              refine RT3.out.mono ?_
              rintro e wb ⟨rfl, hbb⟩
              have HF := Lib.hid (HAa.out.2.2.trans (hbb.mono HAa.out.2.2.size))
              clear hbb RT3
              go_wp2_with fail
              go_ret
              exact ⟨rfl, HF.out⟩
      ·
        have HRO := Lib.hid hroot
        clear hroot
        go_wp2_with fail
        go_loopw [14, 52] (fun v14 v52 wr => ∃ i : Nat, v52 = .int .i64 (i : Int) ∧ i ≤ m ∧ v14 = .bool (smN l i) ∧ Below w3.heap.size w3 wr) (fun _ v52 _ => m - (intOf v52).toNat)
        case atStart => exact ⟨0, rfl, Nat.zero_le _, rfl, Below.refl _ _⟩
        case round =>
          obtain ⟨i, rfl, him, rfl, hbi⟩ := hrel
          have i0' : (0 : Int) ≤ (i : Int) := by omega
          by_cases hlt : i < m
          · have i1 : (i : Int) < (m : Int) := by omega
            obtain ⟨x, hx⟩ : ∃ x, l[i]? = some x := ⟨_, List.getElem?_eq_getElem (by rw [HL.out.2.2.2.2.2.2]; exact hlt)⟩
            obtain ⟨ax, hax, hab, _, HXX⟩ := ent_of H3.out.2.1 hx
            have hsn := Lib.hid (smN_succ hx)
            obtain ⟨u0, u1, u2⟩ := HXX wr hbi
            have HB := Lib.hid (ball hbi (.cells #[.string x.s, .int .u32 x.p, .int .u16 x.q] 38))
            obtain ⟨sb, hsb⟩ : ∃ b, smN l i = b := ⟨_, rfl⟩
            obtain ⟨sb2, hsb2⟩ : ∃ b, smN l (i + 1) = b := ⟨_, rfl⟩
            rw [hsb, hsb2] at hsn
            rw [hsb]
            have Hs2 := Lib.hid hsb2
            have Hax := Lib.hid hax
            clear hsb hsb2 hx HXX hbi hax
            obtain ⟨xs, xp, xq⟩ := x
            simp only at u0 u1 u2 HB hsn
            obtain ⟨Ai, hAi⟩ : ∃ Ai, A = Ai := ⟨_, rfl⟩
            have hAi2 : A = some ax := Hax.out
            subst hAi2
            clear hAi
            cases sb
            · by_cases hsz : 200 < xs.size
              · have zI : (200 : Int) < (xs.size : Int) := by omega
                have hf := Lib.hid (show sb2 = true by rw [hsn.out]; simp [hsz])
                clear hsz hsn
                go_wp2_with fail
                go_roundw
                case rel => exact ⟨i + 1, by go_num, by omega, by rw [Hs2.out, hf.out], HB.out⟩
                case measure => simp [intOf]; omega
              · have zI : (xs.size : Int) ≤ 200 := by omega
                have hdx := Lib.hid (show decide (200 < (xs.size : Int)) = false from decide_eq_false (by omega))
                have hf := Lib.hid (show sb2 = false by rw [hsn.out]; simp; omega)
                clear hsz hsn
                go_wp2_with fail
                go_roundw
                case rel => exact ⟨i + 1, by go_num, by omega, by rw [Hs2.out, hf.out]; first | rfl | rw [hdx.out], HB.out⟩
                case measure => simp [intOf]; omega
            · have hf := Lib.hid (show sb2 = true by rw [hsn.out]; rfl)
              clear hsn
              go_wp2_with fail
              go_roundw
              case rel => exact ⟨i + 1, by go_num, by omega, by rw [Hs2.out, hf.out], HB.out⟩
              case measure => simp [intOf]; omega
          · have i1 : (m : Int) ≤ (i : Int) := by omega
            have hsm : smN l i = !true := by
              rw [show i = l.length by rw [HL.out.2.2.2.2.2.2]; omega, smN_end, HSB.out.1]
            rw [hsm]
            have RI := Lib.hid (rriseE_any A m c l wr ((H3.out.2.1.below hbi).more hbi.size) (by omega))
            rw [HSB.out.2.1] at RI
            have H4 := Lib.hid (And.intro (H3.out.1.lower hbi) (And.intro ((H3.out.2.1.below hbi).more hbi.size) (H3.out.2.2.trans (hbi.mono H3.out.2.2.size))))
            clear hbi hsm
            go_wp2_with fail
            refine RI.out.mono ?_
            rintro e w4 ⟨rfl, hb4⟩
            have H5 := Lib.hid (And.intro (H4.out.1.lower hb4) (And.intro ((H4.out.2.1.below hb4).more hb4.size) (H4.out.2.2.trans (hb4.mono H4.out.2.2.size))))
            clear hb4 RI
            have HEND := Lib.hid H5.out.2.2
            have hlt2 : left < 2 * m + 2 := HBT.out.2.1 HRO.out
            have hltI : (left : Int) < 2 * (m : Int) + 2 := by omega
            have m0I : (0 : Int) ≤ (m : Int) := by omega
            have m9I : (m : Int) ≤ 9000 := by omega
            go_wp2_with fail
            refine (FX.out _).mono ?_
            rintro e w6 ⟨rfl, hb6⟩
            have HF := Lib.hid (HEND.out.trans (hb6.mono HEND.out.size))
            clear hb6
            go_wp2_with fail
            go_ret
            exact ⟨rfl, HF.out⟩
    · have hall : (bs && br) = false := by simpa using hall
      rw [hall] at HSB
      have BN := Lib.hid (build_no (.pointer (some ⟨g, 0, none⟩)) (c := c) H2.out.2.2.1 (by omega) HSB.out.2.2)
      have HALL := Lib.hid hall
      clear hall
      go_wp2_with fail
      refine BN.out.mono ?_
      rintro e w3 ⟨rfl, hb3⟩
      have H3 := Lib.hid (And.intro (H2.out.1.lower hb3) (And.intro ((H2.out.2.2.1.below hb3).more hb3.size) (HL.out.2.2.2.2.2.1.trans ((H2.out.2.1.trans (hb3.mono hz2)).mono HL.out.2.2.2.2.2.1.size))))
      clear hb3 BN
      go_wp2_with fail
      go_loopw [14, 52] (fun v14 v52 wr => ∃ i : Nat, v52 = .int .i64 (i : Int) ∧ i ≤ m ∧ v14 = .bool (smN l i) ∧ Below w3.heap.size w3 wr) (fun _ v52 _ => m - (intOf v52).toNat)
      case atStart => exact ⟨0, rfl, Nat.zero_le _, rfl, Below.refl _ _⟩
      case round =>
        obtain ⟨i, rfl, him, rfl, hbi⟩ := hrel
        have i0' : (0 : Int) ≤ (i : Int) := by omega
        by_cases hlt : i < m
        · have i1 : (i : Int) < (m : Int) := by omega
          obtain ⟨x, hx⟩ : ∃ x, l[i]? = some x := ⟨_, List.getElem?_eq_getElem (by rw [HL.out.2.2.2.2.2.2]; exact hlt)⟩
          obtain ⟨ax, hax, hab, _, HXX⟩ := ent_of H3.out.2.1 hx
          have hsn := Lib.hid (smN_succ hx)
          obtain ⟨u0, u1, u2⟩ := HXX wr hbi
          have HB := Lib.hid (ball hbi (.cells #[.string x.s, .int .u32 x.p, .int .u16 x.q] 38))
          obtain ⟨sb, hsb⟩ : ∃ b, smN l i = b := ⟨_, rfl⟩
          obtain ⟨sb2, hsb2⟩ : ∃ b, smN l (i + 1) = b := ⟨_, rfl⟩
          rw [hsb, hsb2] at hsn
          rw [hsb]
          have Hs2 := Lib.hid hsb2
          have Hax := Lib.hid hax
          clear hsb hsb2 hx HXX hbi hax
          obtain ⟨xs, xp, xq⟩ := x
          simp only at u0 u1 u2 HB hsn
          obtain ⟨Ai, hAi⟩ : ∃ Ai, A = Ai := ⟨_, rfl⟩
          have hAi2 : A = some ax := Hax.out
          subst hAi2
          clear hAi
          cases sb
          · by_cases hsz : 200 < xs.size
            · have zI : (200 : Int) < (xs.size : Int) := by omega
              have hf := Lib.hid (show sb2 = true by rw [hsn.out]; simp [hsz])
              clear hsz hsn
              go_wp2_with fail
              go_roundw
              case rel => exact ⟨i + 1, by go_num, by omega, by rw [Hs2.out, hf.out], HB.out⟩
              case measure => simp [intOf]; omega
            · have zI : (xs.size : Int) ≤ 200 := by omega
              have hdx := Lib.hid (show decide (200 < (xs.size : Int)) = false from decide_eq_false (by omega))
              have hf := Lib.hid (show sb2 = false by rw [hsn.out]; simp; omega)
              clear hsz hsn
              go_wp2_with fail
              go_roundw
              case rel => exact ⟨i + 1, by go_num, by omega, by rw [Hs2.out, hf.out]; first | rfl | rw [hdx.out], HB.out⟩
              case measure => simp [intOf]; omega
          · have hf := Lib.hid (show sb2 = true by rw [hsn.out]; rfl)
            clear hsn
            go_wp2_with fail
            go_roundw
            case rel => exact ⟨i + 1, by go_num, by omega, by rw [Hs2.out, hf.out], HB.out⟩
            case measure => simp [intOf]; omega
        · have i1 : (m : Int) ≤ (i : Int) := by omega
          have hsm : smN l i = !bs := by
            rw [show i = l.length by rw [HL.out.2.2.2.2.2.2]; omega, smN_end, HSB.out.1]
          rw [hsm]
          have RI := Lib.hid (rriseE_any A m c l wr ((H3.out.2.1.below hbi).more hbi.size) (by omega))
          rw [HSB.out.2.1] at RI
          have H4 := Lib.hid (And.intro (H3.out.1.lower hbi) (And.intro ((H3.out.2.1.below hbi).more hbi.size) (H3.out.2.2.trans (hbi.mono H3.out.2.2.size))))
          clear hbi hsm
          go_wp2_with fail
          refine RI.out.mono ?_
          rintro e w4 ⟨rfl, hb4⟩
          have H5 := Lib.hid (And.intro (H4.out.1.lower hb4) (And.intro ((H4.out.2.1.below hb4).more hb4.size) (H4.out.2.2.trans (hb4.mono H4.out.2.2.size))))
          clear hb4 RI
          have LF := Lib.hid (fun (W' : World) (hb : Below w4.heap.size w4 W') => left_any (H5.out.1.lower hb) (by omega))
          have HEND := H5.out.2.2
          cases br
          · go_wp2_with fail
            refine (FX.out _).mono ?_
            rintro e w6 ⟨rfl, hb6⟩
            have LG := Lib.hid (LF.out w6 hb6)
            rw [HLE.out] at LG
            have HF := Lib.hid (HEND.trans (hb6.mono HEND.size))
            clear hb6 HEND
            go_wp2_with fail
            refine LG.out.mono ?_
            rintro e w7 ⟨rfl, rfl⟩
            go_wp2_with fail
            go_ret
            exact ⟨rfl, HF.out⟩
          · have hbs : bs = false := by have := HALL.out; simpa using this
            subst hbs
            go_wp2_with fail
            refine (FX.out _).mono ?_
            rintro e w6 ⟨rfl, hb6⟩
            have LG := Lib.hid (LF.out w6 hb6)
            rw [HLE.out] at LG
            have HF := Lib.hid (HEND.trans (hb6.mono HEND.size))
            clear hb6 HEND
            go_wp2_with fail
            refine LG.out.mono ?_
            rintro e w7 ⟨rfl, rfl⟩
            go_wp2_with fail
            go_ret
            exact ⟨rfl, HF.out⟩
end
end Go.Proofs.Ytebobcbaloddaaa
