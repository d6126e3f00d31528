/-
  Several texts in one: Ma2.
-/
import Derived.Test.YtgndebdoljnheaaGreatDoorMqbd
import Derived.Test.YtgndebdoljnheaaGreatDoorMqbb
/-
  The reference's Different.
-/
namespace Go.Proofs.YtgndebdoljnheaaGreatDoor
section
set_option linter.unusedSimpArgs false
set_option linter.unusedVariables false
open Go.RowKit

theorem Tryz.infoRw13 : (Tryz.prog.info? 33).map (fun i => (i.zero, i.size, i.bytes)) = some (some (.slice none 0 0), 1, 24) := by kernel_rfl
/-- Rows of one value each, of one's own. -/
structure Out13 (base : Nat) (W : World) (A : Option Addr) (m c : Nat) (os : List Rv) (ov : List Vl) : Prop where
  h : W.ownsRow base 33 1 (.slice A m c) m (vRv os)
  len : ov.length = os.length
  e : ∀ (k : Nat) (x : Rv), os[k]? = some x → x.n = 1 ∧ ∃ v, ov[k]? = some v ∧ x.l = [v] ∧ W.ownsRow base 35 3 (.slice x.A 1 x.c) 1 (vV [v])
  sz : ∀ v ∈ ov, v.s.size ≤ 1000000
theorem Out13.ones {base : Nat} {W : World} {A : Option Addr} {m c : Nat} {os : List Rv} {ov : List Vl} (h : Out13 base W A m c os ov) : Ones W A m os ov :=
  ⟨Reads.of_own h.h, h.len, fun k x hx => by
    obtain ⟨h1, v, h2, h3, h4⟩ := h.e k x hx
    exact ⟨h1, v, h2, h3, Reads.of_own h4⟩, h.sz⟩
theorem Out13.below {base : Nat} {W W' : World} {A : Option Addr} {m c : Nat} {os : List Rv} {ov : List Vl} (h : Out13 base W A m c os ov) (hb : Below W.heap.size W W') : Out13 base W' A m c os ov :=
  ⟨own_kept_below h.h hb, h.len, fun k x hx => by
    obtain ⟨h1, v, h2, h3, h4⟩ := h.e k x hx
    exact ⟨h1, v, h2, h3, own_kept_below h4 hb⟩, h.sz⟩
theorem Out13.push {base : Nat} {W W' : World} {A : Option Addr} {m c : Nat} {os : List Rv} {ov : List Vl} (h : Out13 base W A m c os ov) {A' : Option Addr} {c' : Nat} {x : Rv} {v : Vl} {o : Obj} (hx : x.n = 1) (hxl : x.l = [v]) (hp : W.ownsRow base 35 3 (.slice x.A 1 x.c) 1 (vV [v])) (hv : v.s.size ≤ 1000000)
    (ho : W'.ownsRow base 33 1 (.slice A' (m + 1) c') (m + 1) (vRv os ++ [.slice x.A 1 x.c])) (hg : (W.alloc o).grownBy W' (Value.slice A m c).ownBlock) : Out13 base W' A' (m + 1) c' (os ++ [x]) (ov ++ [v]) := by
  refine ⟨?_, by rw [List.length_append, List.length_append, h.len]; rfl, fun k y hy => ?_, fun u hu => ?_⟩
  · have e : vRv (os ++ [x]) = vRv os ++ [.slice x.A 1 x.c] := by simp [vRv, hx]
    rw [e]
    exact ho
  · rcases Nat.lt_or_ge k os.length with h1 | h1
    · rw [List.getElem?_append_left h1] at hy
      obtain ⟨a1, u, a2, a3, a4⟩ := h.e k y hy
      exact ⟨a1, u, by rw [List.getElem?_append_left (by rw [h.len]; exact h1)]; exact a2, a3, own_grown13 h.h a4 (by decide) hg⟩
    · rw [List.getElem?_append_right h1] at hy
      have h2 := lt_of_at hy
      have h3 : k - os.length = 0 := by simp at h2; omega
      rw [h3] at hy
      injection hy with hy
      subst hy
      exact ⟨hx, v, by rw [List.getElem?_append_right (by rw [h.len]; exact h1), h.len, h3]; rfl, hxl, own_grown13 h.h hp (by decide) hg⟩
  · rcases List.mem_append.1 hu with h1 | h1
    · exact h.sz u h1
    · rw [List.mem_singleton] at h1
      rw [h1]
      exact hv
def nn13 (vs : List Vl) : List Vl := vs.filter fun v => decide (v.k ≠ 0)
def RetDi13 (w : World) (vs : List Vl) (e : Ending) (w' : World) : Prop := ∃ r : List Vl, e = .returned (.int .i64 (r.length : Int)) ∧ Reps eqV (nn13 vs) r ∧ Below w.heap.size w w'
set_option maxRecDepth 100000 in
set_option maxHeartbeats 8000000 in
theorem different13_any (A : Option Addr) (n c : Nat) (rws : List Rv) (vs : List Vl) (A2 : Option Addr) (c2 : Nat) (w : World) (h : Ones w A n rws vs) (h2 : Reads w w.heap.size 1 A2 1 (vI64 [0])) (hn : n ≤ 100000) :
    Calls Tryz.prog 8 #[.slice A n c, .slice A2 1 c2, .bool false] w (RetDi13 w vs) := by
  obtain ⟨i1, hi1, hz1', hs1, hy1⟩ := int_info8 Tryz.infoRw13
  have hl : rws.length = n := by have := h.r.1; rw [vRv_len] at this; omega
  have nI : (n : Int) ≤ 100000 := by omega
  have hE := own_empty w 33 1 (g := w.heap.size) rfl
  have hb0 := ball (Below.refl w.heap.size w) (.cells #[] 33)
  have H0 := Lib.hid (And.intro h (And.intro h2 (And.intro hl (And.intro hE hb0))))
  clear h h2 hl hE hb0
  go_enter Tryz.func8, Tryz.ntmps8
  go_wp2_with fail
  go_loopw [7, 13] (fun u7 u13 wr => ∃ (k m : Nat) (A7 : Option Addr) (c7 : Nat) (os : List Rv) (ov : List Vl), u7 = .slice A7 m c7 ∧ u13 = .int .i64 k ∧ k ≤ n ∧ m ≤ k ∧ Out13 w.heap.size wr A7 m c7 os ov ∧ Reps eqV (nn13 (vs.take k)) ov ∧ Below w.heap.size w wr) (fun _ u13 _ => n - (intOf u13).toNat)
  case atStart => exact ⟨0, 0, _, 0, [], [], rfl, rfl, by omega, by omega, ⟨H0.out.2.2.2.1, rfl, fun k x hx => by simp at hx, fun v hv => by cases hv⟩, Reps.nil _, H0.out.2.2.2.2⟩
  case round =>
    obtain ⟨wo, rfl⟩ : ∃ wo : World, wo = wr := ⟨_, rfl⟩
    obtain ⟨k, m, A7, c7, os, ov, rfl, rfl, hk, hmk, hout, hrep, hb⟩ := hrel
    have k0 : (0 : Int) ≤ (k : Int) := by omega
    have mI : (m : Int) ≤ 100000 := by omega
    have hzw := hb.size
    by_cases hlt : k < n
    · have k1 : (k : Int) < (n : Int) := by omega
      have hO := H0.out.1.below hb
      obtain ⟨ad, r, hA, had, hr, hc⟩ := hO.r.rv_ hlt
      obtain ⟨e1, y, e2, e3, e4⟩ := hO.e k r hr
      obtain ⟨rA, rN, rC, rL⟩ := r
      simp only at e1 e3 e4 hc
      subst e1
      subst hA
      have PT := Lib.hid (part13_any rA rC y A2 c2 wo e4 ((H0.out.2.1.below hb).more hb.size))
      have hysz : y.s.size ≤ 1000000 := H0.out.1.sz y (List.mem_of_getElem? e2)
      have hnn : nn13 (vs.take (k + 1)) = nn13 (vs.take k) ++ (if y.k = 0 then [] else [y]) := by
        unfold nn13
        rw [List.take_add_one, e2, List.filter_append]
        by_cases h : y.k = 0
        · simp [h]
        · simp [h]
      have HB := Lib.hid (And.intro hout (And.intro hrep (And.intro hb (And.intro hnn hysz))))
      clear hout hrep hb hO hr had e2 e3 e4 hnn hysz
      go_wp2_with fail
      refine PT.out.mono ?_
      rintro e w1 ⟨pA, pC, rfl, own1, hb1⟩
      have own1' := World.ownsRow.mono own1 hzw
      have b01 := bto0 HB.out.2.2.1 hb1
      have out1 := HB.out.1.below hb1
      have rd1 := Reads.of_own own1
      obtain ⟨ad3, y', hA3, had3, hy, p0, p1, p2⟩ := rd1.val (k := 0) (by omega)
      injection hy with hy
      subst hy
      subst hA3
      simp only [Nat.zero_mul, add0_13] at p0 p1 p2
      have hz1 := b01.size
      have HS := Lib.hid (hasRow_any A7 m c7 os ov (some ad3) pC y w1 out1.ones rd1 HB.out.2.2.2.2 (by omega))
      have H1 := Lib.hid (And.intro own1' (And.intro b01 out1))
      clear own1 own1' b01 out1 rd1 hb1 had3 PT
      by_cases hy0 : y.k = 0
      · have e9 : (y.k == 0) = true := by simp [hy0]
        have HY := Lib.hid hy0
        clear hy0
        go_wp2_with fail
        exact ⟨⟨k + 1, m, A7, c7, os, ov, rfl, by go_num, by omega, by omega, H1.out.2.2, by rw [HB.out.2.2.2.1, if_pos HY.out, List.append_nil]; exact HB.out.2.1, H1.out.2.1⟩, by simp [intOf]; omega⟩
      · have e9 : (y.k == 0) = false := by simp [hy0]
        have HY := Lib.hid hy0
        obtain ⟨q, hq⟩ : ∃ q, (ov.any fun z => eqV z y) = q := ⟨_, rfl⟩
        rw [hq] at HS
        have HQ := Lib.hid hq
        clear hy0 hq
        go_wp2_with fail
        refine HS.out.mono ?_
        rintro e w2 ⟨rfl, hb2⟩
        have out2 := H1.out.2.2.below hb2
        have own2 := own_kept_below H1.out.1 hb2
        have b02 := bto0 H1.out.2.1 hb2
        have hz2 := b02.size
        have H2 := Lib.hid (And.intro out2 (And.intro own2 b02))
        clear out2 own2 b02 hb2 HS
        cases q with
        | true =>
          go_wp2_with fail
          refine ⟨⟨k + 1, m, A7, c7, os, ov, rfl, by go_num, by omega, by omega, H2.out.1, ?_, H2.out.2.2⟩, by simp [intOf]; omega⟩
          rw [HB.out.2.2.2.1, if_neg HY.out]
          have h := HQ.out
          rw [List.any_eq_true] at h
          obtain ⟨z, hz, he⟩ := h
          exact HB.out.2.1.old eqV_eqR ⟨z, hz, he⟩
        | false =>
          go_wp2_with (at_builtin; refine wpList_pushR (news := [.slice (some ad3) 1 pC]) rfl (.tmp 35) (.tmp 37) 22 rfl w.heap.size 33 i1 _ 1 24 Tryz.underlying22 hi1 hz1' hs1 hy1 rfl (by decide) (.slice A7 m c7) m _ (by first | rfl | (simp [Act.eval, Act.put]; done)) H2.out.1.h rfl _ (by first | rfl | (simp [Act.eval, Act.put]; done)) (by first | rfl | simp) rfl (by intro u hu; rw [List.mem_singleton] at hu; subst hu; rfl) (by omega) (by omega) hz2 ?_; intro v9 w9 own9 kp9 ob9; obtain ⟨A10, c10, rfl, hc10⟩ := own_form own9; have o9 := H2.out.1.push (x := ⟨some ad3, 1, pC, [y]⟩) (v := y) rfl rfl H2.out.2.1 HB.out.2.2.2.2 own9 kp9; have b9 := (H2.out.2.2.alloc hz2 _).grown kp9 (by simp; omega) (fun g e => by have := (World.ownsRow.lt H2.out.1.h g e).1; omega); have H9 := Lib.hid (And.intro o9 b9); clear own9 kp9 ob9 o9 b9)
          refine ⟨⟨k + 1, m + 1, A10, c10, os ++ [⟨some ad3, 1, pC, [y]⟩], ov ++ [y], rfl, by go_num, by omega, by omega, H9.out.1, ?_, H9.out.2⟩, by simp [intOf]; omega⟩
          rw [HB.out.2.2.2.1, if_neg HY.out]
          refine HB.out.2.1.new eqV_eqR fun z hz => ?_
          have h := HQ.out
          rw [List.any_eq_false] at h
          simpa using h z hz
    · obtain rfl : k = n := by omega
      have hmo : ov.length = m := by rw [hout.len]; have := hout.h.1; rw [vRv_len] at this; omega
      rw [List.take_of_length_le (by rw [H0.out.1.len, H0.out.2.2.1]; exact Nat.le_refl _)] at hrep
      have HF := Lib.hid (And.intro hmo (And.intro hrep hb))
      clear hout hrep hb hmo hlt
      go_wp2_with fail
      go_ret
      exact ⟨ov, by rw [HF.out.1]; rfl, HF.out.2.1, HF.out.2.2⟩
end
end Go.Proofs.YtgndebdoljnheaaGreatDoor
