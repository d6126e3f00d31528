/-
  Several texts in one: Me9.
-/
import Derived.Test.YtgndebdoljnheaaGreatDoorMebp
import Derived.Test.YtgndebdoljnheaaGreatDoorMebi
import Derived.Test.YtgndebdoljnheaaGreatDoorMebm
/-
  LoadEntries: the walk.
-/
namespace Go.Proofs.YtgndebdoljnheaaGreatDoor
section
set_option linter.unusedSimpArgs false
set_option linter.unusedVariables false
open Go.RowKit Go.Lib

theorem bne13 {a b : Nat} (h : ((a : Int) != (b : Int)) = false) : a = b := by
  simp at h
  omega
theorem key_none {cs : List Int} {l : List Vl} (h : partV cs l = none) : (keyO cs l).2 = 1 := by unfold keyO; rw [h]
theorem key_no {cs : List Int} {l : List Vl} {j : Nat} {c : Int} {v : Vl} (hc : cs[j]? = some c) (hv : l[c.toNat]? = some v) (hm : mayV v = false) : (keyO cs l).2 = 1 := by
  unfold keyO
  rcases hp : partV cs l with _ | p
  · rfl
  · obtain ⟨_, u, hu, hq⟩ := part_at cs l p j c hp hc
    rw [hv] at hu
    injection hu with hu
    subst hu
    have := all_no hq hm
    simp only [this, if_true]
theorem key_ok {cs : List Int} {l p : List Vl} (h : partV cs l = some p) (hm : allMay p = true) : keyO cs l = if 200 < (str (keyR p)).size then (⟨#[]⟩, 4) else (str (keyR p), 0) := by
  unfold keyO
  rw [h]
  simp only [hm, Bool.true_eq_false, if_false]
/-- The entries' answer: what it is, apart from where. -/
def EsV (W : World) (cs : List Int) (rws : List Rv) (ris : List Ri) (v : Value) (E : Int) : Prop :=
  (rws.length ≠ ris.length ∨ badV cs rws = true → v = .slice none 0 0 ∧ E = 1) ∧ (rws.length = ris.length → badV cs rws = false → longV cs rws = true → v = .slice none 0 0 ∧ E = 4) ∧
  (rws.length = ris.length → badV cs rws = false → longV cs rws = false → E = 0 ∧ ∃ (A : Option Addr) (c : Nat), v = .slice A ris.length c ∧ Reads W W.heap.size 3 A ris.length (vE (sortE (entsV cs rws ris))))
theorem RetEs.ev {w w' : World} {cs : List Int} {rws : List Rv} {ris : List Ri} {e : Ending} (h : RetEs w cs rws ris e w') : Below w.heap.size w w' ∧ ∃ (A : Option Addr) (n c : Nat) (E : Int), e = .returned (.tuple #[.slice A n c, .int .i64 E]) ∧ EsV w' cs rws ris (.slice A n c) E := by
  obtain ⟨hb, h⟩ := h
  refine ⟨hb, ?_⟩
  by_cases h1 : rws.length ≠ ris.length ∨ badV cs rws = true
  · rw [if_pos h1] at h
    refine ⟨none, 0, 0, 1, h, fun _ => ⟨rfl, rfl⟩, fun a b => ?_, fun a b => ?_⟩
    · rcases h1 with h1 | h1
      · exact absurd a h1
      · rw [h1] at b; cases b
    · rcases h1 with h1 | h1
      · exact absurd a h1
      · rw [h1] at b; cases b
  · rw [if_neg h1] at h
    by_cases h2 : longV cs rws = true
    · rw [if_pos h2] at h
      exact ⟨none, 0, 0, 4, h, fun x => absurd x h1, fun _ _ _ => ⟨rfl, rfl⟩, fun _ _ x => (by rw [h2] at x; cases x)⟩
    · rw [if_neg h2] at h
      obtain ⟨A, c, h, hr⟩ := h
      exact ⟨A, _, c, 0, h, fun x => absurd x h1, fun _ _ x => absurd x h2, fun _ _ _ => ⟨rfl, A, c, rfl, hr⟩⟩

set_option maxRecDepth 100000 in
set_option maxHeartbeats 16000000 in
theorem loadEntries_any (CA : Option Addr) (cn cc : Nat) (cs : List Int) (RA : Option Addr) (rn rc : Nat) (rws : List Rv) (IA : Option Addr) (kn kc : Nat) (ris : List Ri) (b : Bool) (w : World) (hm : MaxC w) (hC : Reads w w.heap.size 1 CA cn (vI64 cs)) (hcm : cn ≤ maxLen) (hR : RowsIn w RA rn rws) (hK : Reads w w.heap.size 2 IA kn (vRi ris)) (hkm : kn ≤ maxLen) :
    Calls Tryz.prog 4 #[.slice CA cn cc, .slice RA rn rc, .slice IA kn kc, .bool b] w (RetB w (.bool true)) := by
  have FX := Lib.hid fun W => fixed13_any W
  obtain ⟨i2, hi2, hz2, hs2, hy2⟩ := int_info8 Tryz.infoRi13
  obtain ⟨i1', hi1, hz1, hs1, hy1⟩ := int_info8 Tryz.infoE13
  have hb0 := ball (Below.refl w.heap.size w) (.cells #[.slice RA rn rc] 22)
  have GR := Lib.hid (great13_any w.heap.size RA rn rc rws _ (hR.below hb0) (Blk.new w 22 #[.slice RA rn rc]))
  have hl : rws.length = rn := by have := hR.r.1; rw [vRv_len] at this; omega
  have hrm := hR.n
  unfold maxLen at hcm hkm hrm
  have H0 := Lib.hid (And.intro hR (And.intro hb0 (And.intro hl (And.intro hm (And.intro hC hK)))))
  clear hR hb0 hl hm hC hK
  have cI : (cn : Int) ≤ 9223372036854775807 := by omega
  have kI : (kn : Int) ≤ 9223372036854775807 := by omega
  have rI : (rn : Int) ≤ 9223372036854775807 := by omega
  go_enter Tryz.func4, Tryz.ntmps4
  go_wp2_with fail
  refine GR.out.mono ?_
  rintro e w1 ⟨gb, rfl, hb1, hsm⟩
  have HB := Lib.hid (And.intro (bto0 H0.out.2.1 hb1) hsm)
  clear hb1 hsm
  cases gb
  rotate_left
  · go_wp2_with fail
    refine (FX.out _).mono ?_
    rintro e w2 ⟨rfl, hb2⟩
    have HB2 := Lib.hid (bto0 HB.out.1 hb2)
    clear hb2
    go_wp2_with fail
    go_ret
    exact ⟨rfl, HB2.out⟩
  by_cases h20 : 20 < cn
  · have h20' : (20 : Int) < (cn : Int) := by omega
    go_wp2_with fail
    refine (FX.out _).mono ?_
    rintro e w2 ⟨rfl, hb2⟩
    have HB2 := Lib.hid (bto0 HB.out.1 hb2)
    clear hb2
    go_wp2_with fail
    go_ret
    exact ⟨rfl, HB2.out⟩
  have h20' : ¬ (20 : Int) < (cn : Int) := by omega
  by_cases h2k : 2000 < kn
  · have h2k' : (2000 : Int) < (kn : Int) := by omega
    go_wp2_with fail
    refine (FX.out _).mono ?_
    rintro e w2 ⟨rfl, hb2⟩
    have HB2 := Lib.hid (bto0 HB.out.1 hb2)
    clear hb2
    go_wp2_with fail
    go_ret
    exact ⟨rfl, HB2.out⟩
  have h2k' : ¬ (2000 : Int) < (kn : Int) := by omega
  go_upto_if 34 with fail
  all_goals try (exfalso; omega)
  go_cut [2] (fun s2 wx => ∃ (A2 : Option Addr) (n2 c2 : Nat) (ris2 : List Ri), s2 = .slice A2 n2 c2 ∧ n2 ≤ 100000 ∧ Reads wx wx.heap.size 2 A2 n2 (vRi ris2) ∧ Below w.heap.size w wx)
  case first =>
    cases b
    · go_wp2_with fail
      go_meet
      case rel => exact ⟨IA, kn, kc, ris, rfl, by omega, (H0.out.2.2.2.2.2.below HB.out.1).more HB.out.1.size, HB.out.1⟩
    · have hsmall := (HB.out.2 (by first | trivial | rfl)).1
      have hzw := HB.out.1.size
      have hE := own_empty w1 51 2 (g := w1.heap.size) rfl
      have HE := Lib.hid hE
      have rI2 : (rn : Int) ≤ 1500 := by omega
      have kI2 : (kn : Int) ≤ 2000 := by omega
      clear hE
      have hcut2 := fun (A : Option Addr) (n c : Nat) (h : rn ≤ c) => cuthiR A n c rn h
      have HCU := Lib.hid hcut2
      clear hcut2
      go_wp2_with (first
        | (at_builtin; refine wpList_append_any _ rfl (.tmp 35) (.tmp 36) 39 rfl w1.heap.size 51 i2 _ 2 8 Tryz.underlying39 hi2 hz2 hs2 hy2 rfl (by decide) _ 0 [] rfl HE.out _ IA kn kc (vRi ris) rfl (((H0.out.2.2.2.2.2.below HB.out.1).more HB.out.1.size).below (ball (Below.refl _ _) _)) (vRi_one _) (by unfold maxLen; omega) (by omega) (by simp) ?_; intro v7 w7 own7 hg7 _; simp only [Nat.zero_add, List.nil_append] at own7; have hb7 : Below w.heap.size w w7 := (ball HB.out.1 _).grown hg7 (by simp; omega) (fun g e => by (have := (World.ownsRow.lt HE.out g e).1; omega)); have hz7 : w1.heap.size ≤ w7.heap.size := (by have := hg7.size; simp at this; omega))
        | (at_builtin; refine wpList_appZR rfl (.tmp 37) (.tmp 39) rfl w1.heap.size v7 kn (vRi ris) rn _ rfl own7 rfl rfl (by omega) hz7 ?_; intro v8 w8 own8 hg8; obtain ⟨A8, c8, rfl, hc8, hm8⟩ := own_capE own8; have hb8 : Below w.heap.size w w8 := hb7.grown hg8 (by omega) (fun g e => by (have := (World.ownsRow.lt own7 g e).1; omega)); have hcut8 := HCU.out A8 (kn + rn) c8 (by omega))
        | fail)
      go_meet
      case rel =>
        rw [← vRi_app] at own8
        exact ⟨A8, rn, c8, (ris ++ List.replicate rn zeroRi).take rn, rfl, by omega, (Reads.of_own own8).takeR (by omega), hb8⟩
  case rest =>
    obtain ⟨A2, n2, c2, ris2, rfl, hn2, hr2, hbx⟩ := hcut
    have hsmall := HB.out.2 (by first | trivial | rfl)
    have hrn := hsmall.1
    have EN := Lib.hid (entries_any CA cn cc cs RA rn rc rws A2 n2 c2 ris2 wc (H0.out.2.2.2.1.below0 hbx) ((H0.out.2.2.2.2.1.below hbx).more hbx.size) (by omega) (H0.out.1.below hbx) hsmall.2 hr2 (by omega) (by omega))
    have hkl : ris2.length = n2 := by have := hr2.1; rw [vRi_len] at this; omega
    have HC := Lib.hid (And.intro hbx (And.intro hr2 (And.intro hkl hsmall.2)))
    clear hbx hr2 hkl hsmall HB
    have rI2 : (rn : Int) ≤ 1500 := by omega
    have kI2 : (n2 : Int) ≤ 100000 := by omega
    go_wp2_with fail
    refine EN.out.mono ?_
    rintro e w3 hes
    obtain ⟨hb3, A9, n9, c9, E, rfl, hev⟩ := hes.ev
    have HE3 := Lib.hid (And.intro (bto0 HC.out.1 hb3) (And.intro hb3 hev))
    clear hes hb3 hev EN
    go_wp2_with fail
    go_loopw [11, 12, 13, 14] (fun u11 u12 u13 u14 wr => ∃ (i : Nat) (wb lb : Bool) (A13 : Option Addr) (n13 c13 : Nat), u11 = .bool wb ∧ u12 = .bool lb ∧ u13 = .slice A13 n13 c13 ∧ u14 = .int .i64 i ∧ i ≤ rn ∧ (wb = true → rws.length ≠ ris2.length ∨ badV cs rws = true) ∧ (wb = false → rn = n2 ∧ badV cs (rws.take i) = false ∧ lb = longV cs (rws.take i) ∧ n13 = i ∧ ∃ l13 : List En, wr.ownsRow w3.heap.size 53 3 (.slice A13 n13 c13) n13 (vE l13) ∧ (lb = false → l13 = entsV cs (rws.take i) (ris2.take i))) ∧ Below w3.heap.size w3 wr) (fun _ _ _ u14 _ => rn - (intOf u14).toNat)
    case atStart => exact ⟨0, _, false, none, 0, 0, rfl, rfl, rfl, rfl, Nat.zero_le _, fun h => .inl (by rw [H0.out.2.2.1, HC.out.2.2.1]; intro e; rw [e] at h; simp at h), fun h => ⟨bne13 h, rfl, rfl, rfl, [], ⟨rfl, .inl ⟨rfl, rfl⟩⟩, fun _ => rfl⟩, Below.refl _ _⟩
    case round =>
      obtain ⟨i, wb, lb, A13, n13, c13, rfl, rfl, rfl, rfl, hi, hwt, hwf, hb⟩ := hrel
      have i0 : (0 : Int) ≤ (i : Int) := by omega
      have HI := Lib.hid (And.intro hwt (And.intro hwf hb))
      clear hwt hwf hb
      cases wb
      rotate_left
      · -- wrong
        have hv9 := HE3.out.2.2.1 (HI.out.1 (by first | trivial | rfl))
        obtain ⟨hv1, rfl⟩ := hv9
        injection hv1 with ha hb hc
        subst ha hb hc
        have FX2 := Lib.hid (FX.out wr)
        by_cases hir : i < rn
        all_goals
          have hir' : ((i : Int) < (rn : Int)) = (i < rn) := by simp
          go_wp2_with (first | (go_at_call 6; (with_reducible refine FX2.out.mono ?_); rintro e w5 ⟨rfl, hb5⟩) | fail)
          go_ret
          exact ⟨rfl, bto0 HE3.out.1 (bto0 HI.out.2.2 hb5)⟩
      · obtain ⟨hrn2, hbad, hlb, rfl, l13, hown, hl13⟩ := HI.out.2.1 (by first | trivial | rfl)
        have HJ := Lib.hid (And.intro hbad (And.intro hown (And.intro HI.out.2.2 (And.intro hl13 (And.intro hlb hrn2)))))
        clear hbad hown HI hl13 hlb hrn2
        by_cases hir : n13 < rn
        · have i1 : (n13 : Int) < (rn : Int) := by omega
          have hbw := bto0 HE3.out.1 HJ.out.2.2.1
          obtain ⟨ad, r, hRA, hab, hr, dr⟩ := (H0.out.1.below hbw).r.rv_ hir
          subst hRA
          have hre := H0.out.1.e r (List.mem_of_getElem? hr)
          have hrl : r.l.length = r.n := by have := hre.1.1; rw [vV_len] at this; omega
          have hrn5 := hre.2.1
          unfold maxLen at hrn5
          have rnI : (r.n : Int) ≤ 9223372036854775807 := by omega
          have HR := Lib.hid (And.intro hr (And.intro hre (And.intro hrl (HC.out.2.2.2 r (List.mem_of_getElem? hr)))))
          have DR := Lib.hid fun (W : World) (hW : Below wr.heap.size wr W) => (hW.cell (p := ad.add n13) (by rw [block_of_add]; exact hab)).trans dr
          obtain ⟨rA, rN, rC, rL⟩ := r
          simp only at HR DR rnI
          have HBW := Lib.hid hbw
          clear hr hre hrl hrn5 dr hbw
          go_wp2_with fail
          go_loopw [11, 68] (fun u11 u68 wi => ∃ (j : Nat) (wb : Bool), u11 = .bool wb ∧ u68 = .int .i64 j ∧ j ≤ cn ∧ (wb = true → (keyO cs rL).2 = 1) ∧ (wb = false → ∃ p, partV (cs.take j) rL = some p ∧ allMay p = true) ∧ Below wr.heap.size wr wi) (fun _ u68 _ => cn - (intOf u68).toNat)
          case atStart => exact ⟨0, false, rfl, rfl, Nat.zero_le _, fun h => (by cases h), fun _ => ⟨[], rfl, rfl⟩, Below.refl _ _⟩
          case round =>
            obtain ⟨j, wb, rfl, rfl, hj, hwt, hwf, hbi⟩ := hrel
            have j0 : (0 : Int) ≤ (j : Int) := by omega
            have dri := DR.out _ hbi
            have hb9 := bto0 HBW.out hbi
            by_cases hjc : j < cn
            · have j1 : (j : Int) < (cn : Int) := by omega
              obtain ⟨ad5, x, hCA, hab5, hx, dx⟩ := (H0.out.2.2.2.2.1.below hb9).i64e hjc
              subst hCA
              have HX := Lib.hid hx
              have HF := Lib.hid (And.intro hwt (And.intro hwf hbi))
              clear hwt hwf hx
              cases wb
              rotate_left
              · clear hbi hb9
                go_wp2_with fail
                exact ⟨⟨j + 1, true, rfl, by go_num, by omega, fun _ => HF.out.1 (by first | trivial | rfl), fun h => (by cases h), HF.out.2.2⟩, by simp [intOf]; omega⟩
              · by_cases hx0 : x < 0
                · have hbad1 : Hid ((keyO cs rL).2 = 1) := Lib.hid (key_none (part_bad cs rL j x HX.out (.inl hx0)))
                  clear hbi hb9
                  go_wp2_with fail
                  exact ⟨⟨j + 1, true, rfl, by go_num, by omega, fun _ => hbad1.out, fun h => (by cases h), HF.out.2.2⟩, by simp [intOf]; omega⟩
                · obtain ⟨m, rfl⟩ : ∃ m : Nat, x = (m : Int) := ⟨x.toNat, by omega⟩
                  have m0 : (0 : Int) ≤ (m : Int) := by omega
                  by_cases hmn : m < rN
                  · have m1 : (m : Int) < (rN : Int) := by omega
                    obtain ⟨ad6, v, hrA, hab6, hv, p0, p1, p2⟩ := (HR.out.2.1.1.below hb9).val hmn
                    subst hrA
                    have hvm := List.mem_of_getElem? hv
                    have MY := fun W => rmay_any v (HR.out.2.1.2.2 v hvm) W
                    have hkn := fun h => key_no (cs := cs) (l := rL) (j := j) HX.out (by rw [Int.toNat_natCast]; exact hv) h
                    obtain ⟨pp, hpp, hma⟩ := HF.out.2.1 (by first | trivial | rfl)
                    have hsn := part_snoc (cs.take j) rL pp (m : Int) v hpp m0 (by rw [Int.toNat_natCast]; exact hv)
                    have hal : mayV v = true → allMay (pp ++ [v]) = true := fun h => by unfold allMay at *; rw [List.all_append, hma]; simp [h]
                    obtain ⟨mb, hmb⟩ : ∃ mb, mayV v = mb := ⟨_, rfl⟩
                    rw [hmb] at MY hkn hal
                    have HM := Lib.hid (And.intro MY (And.intro hkn (And.intro hsn hal)))
                    clear MY hkn hsn hal hmb hv hvm hpp hma hbi hb9
                    obtain ⟨vk, vi, vs⟩ := v
                    unfold Vl.agg at HM
                    simp only at HM p0 p1 p2
                    go_wp2_with (first | (go_at_call 11; (refine (HM.out.1 _).mono ?_); rintro e w6 ⟨rfl, hb6⟩; have hb6w := bto0 HF.out.2.2 hb6) | fail)
                    cases mb
                    · refine ⟨⟨j + 1, true, rfl, by go_num, by omega, fun _ => HM.out.2.1 (by first | trivial | rfl), fun h => (by cases h), hb6w⟩, by simp [intOf]; omega⟩
                    · refine ⟨⟨j + 1, false, rfl, by go_num, by omega, fun h => (by cases h), fun _ => ⟨pp ++ [⟨vk, vi, vs⟩], ?_, HM.out.2.2.2 (by first | trivial | rfl)⟩, hb6w⟩, by simp [intOf]; omega⟩
                      rw [List.take_add_one, HX.out]
                      exact HM.out.2.2.1
                  · have m1 : ¬ (m : Int) < (rN : Int) := by omega
                    have m2 : (rN : Int) ≤ (m : Int) := by omega
                    have hbad1 : Hid ((keyO cs rL).2 = 1) := Lib.hid (key_none (part_bad cs rL j (m : Int) HX.out (.inr (by rw [Int.toNat_natCast]; exact List.getElem?_eq_none (by rw [HR.out.2.2.1]; omega)))))
                    clear hbi hb9
                    go_wp2_with fail
                    exact ⟨⟨j + 1, true, rfl, by go_num, by omega, fun _ => hbad1.out, fun h => (by cases h), HF.out.2.2⟩, by simp [intOf]; omega⟩
            · obtain rfl : j = cn := by omega
              have j1 : ¬ (j : Int) < (j : Int) := by omega
              have HF := Lib.hid (And.intro hwt (And.intro hwf hbi))
              clear hwt hwf
              cases wb
              rotate_left
              · have HBD := Lib.hid (bad_at (cs := cs) HR.out.1 (HF.out.1 (by first | trivial | rfl)))
                clear hbi hb9
                go_wp2_with fail
                exact ⟨⟨n13 + 1, true, lb, A13, n13, c13, rfl, rfl, rfl, by go_num, by omega, fun _ => .inr HBD.out, fun h => (by cases h), bto0 HJ.out.2.2.1 HF.out.2.2⟩, by simp [intOf]; omega⟩
              · obtain ⟨p, hp, hma⟩ := HF.out.2.1 (by first | trivial | rfl)
                have hcl : cs.length = j := by have := H0.out.2.2.2.2.1.1; rw [vI64_len] at this; omega
                rw [List.take_of_length_le (by rw [hcl]; exact Nat.le_refl _)] at hp
                obtain ⟨hpl, hpm⟩ := part_len cs rL p hp
                have hps : ∀ v ∈ p, v.s.size ≤ 5000 := fun v hv => HR.out.2.2.2 v (hpm v hv)
                have hkb := keyR_bd p hps
                have hp20 : p.length ≤ 20 := by rw [hpl, hcl]; omega
                have hkb2 : (keyR p).length ≤ 900000 := by
                  have : p.length * 10010 ≤ 20 * 10010 := Nat.mul_le_mul hp20 (Nat.le_refl _)
                  omega
                have PT := Lib.hid fun (W : World) (hW : Below w.heap.size w W) => partR_any rA rN rC rL CA j cc cs p W hp ((HR.out.2.1.1.below hW).more hW.size) ((H0.out.2.2.2.2.1.below hW).more hW.size) (by omega)
                have RK := Lib.hid fun (A : Option Addr) (c : Nat) (W : World) (hW : Reads W W.heap.size 3 A p.length (vV p)) => rkput_any2 A p.length c p W hW (fun v hv => HR.out.2.1.2.2 v (hpm v hv)) (by omega) hps hkb2
                have HKO := Lib.hid (key_ok hp hma)
                unfold RetPut kS kE at RK
                simp only [hma, if_true] at RK
                obtain ⟨S, hS⟩ : ∃ S, str (keyR p) = S := ⟨_, rfl⟩
                rw [hS] at RK HKO
                have hrn2 := HJ.out.2.2.2.2.2
                obtain ⟨ad7, ri, hA2, hab7, hri, e0, e1⟩ := HC.out.2.1.ri (k := n13) (by omega)
                subst hA2
                have HE7 := Lib.hid fun (W : World) (hW : Below wc.heap.size wc W) => And.intro ((hW.cell (p := ad7.add (n13 * 2)) (by simp only [block_of_add]; omega)).trans e0) ((hW.cell (p := ⟨(ad7.add (n13 * 2)).block, (ad7.add (n13 * 2)).off + 1, none⟩) (by simp only [block_of_add]; omega)).trans e1)
                have n1 : (n13 : Int) < (n2 : Int) := by omega
                have HN := Lib.hid (And.intro hri hrn2)
                have own0 := own_belowE HJ.out.2.1 HF.out.2.2
                have hb30 := bto0 HJ.out.2.2.1 HF.out.2.2
                have HO := Lib.hid (And.intro own0 (And.intro hb30 hb9))
                have hbadn := bad_snoc (cs := cs) HR.out.1
                have hlongn := long_snoc (cs := cs) HR.out.1
                have hentn := ents_snoc (cs := cs) HR.out.1 hri
                have HS := Lib.hid (And.intro hbadn (And.intro hlongn hentn))
                clear hpl hpm hps hkb hp20 hkb2 hp hma hS hri e0 e1 hrn2 own0 hb30 hbadn hlongn hentn hbi hb9 hcl
                by_cases h200 : 200 < S.size
                · have h200' : (200 : Int) < (S.size : Int) := by omega
                  have hk4 : keyO cs rL = (⟨#[]⟩, 4) := by rw [HKO.out, if_pos h200]
                  have HK4 := Lib.hid hk4
                  clear hk4
                  cases lb
                  all_goals
                    go_wp2_with (first
                      | (go_at_call 13; (refine (PT.out _ HO.out.2.2).mono ?_); rintro e w5 ⟨A5, c5, rfl, own5, hb5⟩; have hb5w := bto0 HO.out.2.1 hb5; have ownA := own_belowE HO.out.1 hb5)
                      | (go_at_call 12; (refine (RK.out _ _ _ (Reads.of_own own5)).mono ?_); rintro e w6 ⟨rfl, hb6⟩; have hb6w := bto0 hb5w hb6; have ownB := own_belowE ownA hb6; obtain ⟨e70, e71⟩ := HE7.out _ (bto0 HE3.out.2.1 hb6w); have hz6 := hb6w.size)
                      | (at_builtin; refine wpList_pushR (news := En.cells ⟨S, ri.p, ri.q⟩) rfl (.tmp 116) (.tmp 123) 40 rfl w3.heap.size 53 i1' _ 3 24 Tryz.underlying40 hi1 hz1 hs1 hy1 rfl (by decide) (.slice A13 n13 c13) n13 _ (by first | rfl | (simp [Act.eval, Act.put]; done)) ownB rfl _ (by first | rfl | (simp [Act.eval, Act.put]; done)) (by first | rfl | simp) rfl (cells_oneE _) (by omega) (by omega) hz6 ?_; intro v8 w8 own8 hg8 _; obtain ⟨A9', c9', rfl, hc9⟩ := own_form own8; have hb8 : Below w3.heap.size w3 w8 := (ball hb6w _).grown hg8 (by simp; omega) (fun g e => (World.ownsRow.lt ownB g e).1))
                      | fail)
                    have e8 : En.cells ⟨S, ri.p, ri.q⟩ = vE [⟨S, ri.p, ri.q⟩] := by simp [vE]
                    rw [e8] at own8
                    refine ⟨⟨n13 + 1, false, true, A9', n13 + 1, c9', rfl, rfl, rfl, by go_num, by omega, fun h => (by cases h), fun _ => ⟨HN.out.2, by rw [HS.out.1, HJ.out.1, HK4.out]; rfl, by rw [HS.out.2.1, HK4.out]; simp, rfl, l13 ++ [⟨S, ri.p, ri.q⟩], by rw [vE_app]; exact own8, fun h => (by cases h)⟩, hb8⟩, by simp [intOf]; omega⟩
                · have h200' : ¬ (200 : Int) < (S.size : Int) := by omega
                  have hk4 : keyO cs rL = (S, 0) := by rw [HKO.out, if_neg h200]
                  have HD : Hid (decide ((200 : Int) < (S.size : Int)) = false) := Lib.hid (decide_eq_false h200')
                  have HK4 := Lib.hid hk4
                  clear hk4
                  cases lb
                  all_goals
                    go_wp2_with (first
                      | (go_at_call 13; (refine (PT.out _ HO.out.2.2).mono ?_); rintro e w5 ⟨A5, c5, rfl, own5, hb5⟩; have hb5w := bto0 HO.out.2.1 hb5; have ownA := own_belowE HO.out.1 hb5)
                      | (go_at_call 12; (refine (RK.out _ _ _ (Reads.of_own own5)).mono ?_); rintro e w6 ⟨rfl, hb6⟩; have hb6w := bto0 hb5w hb6; have ownB := own_belowE ownA hb6; obtain ⟨e70, e71⟩ := HE7.out _ (bto0 HE3.out.2.1 hb6w); have hz6 := hb6w.size)
                      | (at_builtin; refine wpList_pushR (news := En.cells ⟨S, ri.p, ri.q⟩) rfl (.tmp 116) (.tmp 123) 40 rfl w3.heap.size 53 i1' _ 3 24 Tryz.underlying40 hi1 hz1 hs1 hy1 rfl (by decide) (.slice A13 n13 c13) n13 _ (by first | rfl | (simp [Act.eval, Act.put]; done)) ownB rfl _ (by first | rfl | (simp [Act.eval, Act.put]; done)) (by first | rfl | simp) rfl (cells_oneE _) (by omega) (by omega) hz6 ?_; intro v8 w8 own8 hg8 _; obtain ⟨A9', c9', rfl, hc9⟩ := own_form own8; have hb8 : Below w3.heap.size w3 w8 := (ball hb6w _).grown hg8 (by simp; omega) (fun g e => (World.ownsRow.lt ownB g e).1))
                      | fail)
                    have e8 : En.cells ⟨S, ri.p, ri.q⟩ = vE [⟨S, ri.p, ri.q⟩] := by simp [vE]
                    rw [e8] at own8
                    refine ⟨⟨n13 + 1, false, _, A9', n13 + 1, c9', rfl, rfl, rfl, by go_num, by omega, fun h => (by cases h), fun _ => ⟨HN.out.2, by rw [HS.out.1, HJ.out.1, HK4.out]; rfl, by rw [HS.out.2.1, HK4.out, ← HJ.out.2.2.2.2.1]; first | rfl | (rw [HD.out]; rfl), rfl, l13 ++ [⟨S, ri.p, ri.q⟩], by rw [vE_app]; exact own8, fun h => by rw [HS.out.2.2, HJ.out.2.2.2.1 (by first | trivial | exact h)]; unfold entR; rw [HK4.out]⟩, hb8⟩, by simp [intOf]; omega⟩
        · obtain rfl : n13 = rn := by omega
          have i1 : ¬ (n13 : Int) < (n13 : Int) := by omega
          have hT1 : rws.take n13 = rws := List.take_of_length_le (by rw [H0.out.2.2.1]; exact Nat.le_refl _)
          have hrn2 := HJ.out.2.2.2.2.2
          have hlen : rws.length = ris2.length := by rw [H0.out.2.2.1, HC.out.2.2.1]; exact hrn2
          have hT2 : ris2.take n13 = ris2 := List.take_of_length_le (by rw [HC.out.2.2.1, ← hrn2]; exact Nat.le_refl _)
          rw [hT1, hT2] at HJ
          have hbad := HJ.out.1
          have hlb := HJ.out.2.2.2.2.1
          cases lb
          rotate_left
          · obtain ⟨hv1, rfl⟩ := HE3.out.2.2.2.1 hlen hbad hlb.symm
            injection hv1 with ha hb hc
            subst ha hb hc
            have FX2 := Lib.hid (FX.out wr)
            clear hlb hbad hlen hT1 hT2 hrn2
            go_wp2_with (first | (go_at_call 6; (with_reducible refine FX2.out.mono ?_); rintro e w5 ⟨rfl, hb5⟩) | fail)
            go_ret
            exact ⟨rfl, bto0 HE3.out.1 (bto0 HJ.out.2.2.1 hb5)⟩
          · obtain ⟨rfl, A', c', hv, hrd⟩ := HE3.out.2.2.2.2 hlen hbad hlb.symm
            injection hv with ha hb hc
            subst ha hb hc
            have hl13 := HJ.out.2.2.2.1 (by first | trivial | rfl)
            have hn9 : ris2.length = n13 := by rw [HC.out.2.2.1]; exact hrn2.symm
            rw [hn9] at hrd ⊢
            have hl13l : l13.length = n13 := by have := HJ.out.2.1.1; rw [vE_len] at this; omega
            have FX2 := Lib.hid (FX.out wr)
            have SO := Lib.hid fun (W : World) (hW : Below wr.heap.size wr W) => rsorted_any A13 n13 c13 l13 W (Reads.of_own (own_belowE HJ.out.2.1 hW)) (by omega)
            have SA := Lib.hid fun (A : Option Addr) (c : Nat) (W : World) (hW : Below w3.heap.size w3 W) (hr : Reads W W.heap.size 3 A n13 (vE (sortE l13))) => sameE13_any A9 n13 c9 A c (sortE l13) W (by rw [hl13]; exact (hrd.below hW).more hW.size) hr (by omega)
            have HL := Lib.hid hl13l
            clear hlb hbad hlen hT1 hT2 hrn2 hrd hl13 hn9 hl13l
            go_wp2_with (first
              | (go_at_call 6; (with_reducible refine FX2.out.mono ?_); rintro e w5 ⟨rfl, hb5⟩)
              | (go_at_call 15; (refine (SO.out _ hb5).mono ?_); rintro e w6 ⟨A6, n6, c6, rfl, hn6, _, _, hr6, hb6⟩; rw [HL.out] at hn6; subst hn6; have hb6w := bto0 HJ.out.2.2.1 (bto0 hb5 hb6))
              | (go_at_call 14; (refine (SA.out _ _ _ hb6w hr6).mono ?_); rintro e w7 ⟨rfl, hb7⟩)
              | fail)
            go_ret
            exact ⟨rfl, bto0 HE3.out.1 (bto0 hb6w hb7)⟩
end
end Go.Proofs.YtgndebdoljnheaaGreatDoor
