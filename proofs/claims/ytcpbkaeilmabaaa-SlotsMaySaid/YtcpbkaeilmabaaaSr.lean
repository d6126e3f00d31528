/-
  Slots of a heap page: the law's same.
-/
import Derived.Test.YtcpbkaeilmabaaaOc
import Derived.Test.YtcpbkaeilmabaaaSq
import Derived.BigQuiet
namespace Go.Proofs.Ytcpbkaeilmabaaa
open Go.RowKit

/-- The rows of a family from one on. -/
structure FamAt (w : World) (base : Nat) (rs : List (List UInt8)) (fs : List (Nat × Nat)) (k : Nat) : Prop where
  own : ∀ (i : Nat) (f : Nat × Nat) (r : List UInt8), k ≤ i → fs[i]? = some f → rs[i]? = some r → Own w base (.slice (some ⟨f.1, 0, none⟩) r.length f.2) r
theorem Fam.at_ {w : World} {base : Nat} {rs : List (List UInt8)} {fs : List (Nat × Nat)} (h : Fam w base rs fs) : FamAt w base rs fs 0 := ⟨fun i f r _ hf hr => h.own i f r hf hr⟩
theorem FamAt.below {w w' : World} {base k : Nat} {rs : List (List UInt8)} {fs : List (Nat × Nat)} (h : FamAt w base rs fs k) (hb : Below w.heap.size w w') : FamAt w' base rs fs k :=
  ⟨fun i f r hk hf hr => (h.own i f r hk hf hr).below hb⟩
theorem FamAt.next {w w' : World} {base k : Nat} {rs : List (List UInt8)} {fs : List (Nat × Nat)} {f : Nat × Nat} (h : FamAt w base rs fs k) (hl : ∀ (i j : Nat) (f f' : Nat × Nat), i < j → fs[i]? = some f → fs[j]? = some f' → f.1 < f'.1) (hf : fs[k]? = some f)
    (he : ∀ g, g < w.heap.size → g ≠ f.1 → w'.heap[g]? = w.heap[g]?) : FamAt w' base rs fs (k + 1) :=
  ⟨fun i f' r hk hf' hr => (h.own i f' r (by omega) hf' hr).same_ (he _ (h.own i f' r (by omega) hf' hr).block_lt.2 (fun e => by have := hl k i f f' (by omega) hf hf'; omega))⟩
section
variable {w : World} {A : Option Addr} {n c B : Nat} {l : List UInt8}
set_option maxRecDepth 100000 in
set_option maxHeartbeats 2000000 in
theorem psame_any (next : Int) (hp : isPage l = true) (hr : Reads w B 1 A n (bL l)) (hB : B ≤ w.heap.size) (hn : n ≤ 1000000) (hc : n ≤ c) (A2 : Option Addr) (m c2 : Nat) (hm : m = hdC l) (hr2 : Reads w w.heap.size 1 A2 m (sL (recs l))) :
    Calls Try.prog 55 #[.slice A n c, .agg #[.int .u32 next, .slice A2 m c2]] w (RetB w (.bool true)) := by
  have ALL := Lib.hid fun W (hW : Below w.heap.size w W) => all_ok (c := c) hp (hr.below (hW.mono hB)) (Nat.le_trans hB hW.size) hn hc
  have GET := Lib.hid fun k (hk : k < m) W (hW : Below w.heap.size w W) => get_ok (c := c) k hp (by omega) (hr.below (hW.mono hB)) (Nat.le_trans hB hW.size) hn hc
  have LOW := Lib.hid fun W (hW : Below w.heap.size w W) => get_out (c := c) (-1) hp (by omega) (hr.below (hW.mono hB)) (Nat.le_trans hB hW.size) hn hc
  have HIGH := Lib.hid fun W (hW : Below w.heap.size w W) => get_out (c := c) (m : Int) hp (by omega) (hr.below (hW.mono hB)) (Nat.le_trans hB hW.size) hn hc
  have RL := Lib.hid (recs_len l)
  have RA : Hid (∀ k, k < m → (recs l)[k]? = some (recK l k)) := fun k h => recs_at l (by omega)
  have hm6 : m ≤ 126 := by have := (page_end hp).2.1; omega
  rw [← hm] at ALL RL
  have hmI : (m : Int) ≤ 126 := by omega
  obtain ⟨rs, hrs⟩ : ∃ rs, recs l = rs := ⟨_, rfl⟩
  rw [hrs] at ALL RL RA hr2
  have R2 := Lib.hid hr2
  clear hp hr hm hn hB hrs hr2
  have hX := Blk.new w 89 #[.int .u32 next, .slice A2 m c2]
  have hb0 := ball (Below.refl w.heap.size w) (.cells #[.int .u32 next, .slice A2 m c2] 89)
  go_enter Try.func55, Try.ntmps55
  go_wp2_with fail
  refine (ALL.out _ hb0).mono ?_
  rintro e w1 ⟨g, fs, rfl, hfs, hG, hF, hg, hb1⟩
  have hX1 := hX.below hb1 hX.lt
  have hb01 := bto0 hb0 hb1
  have hF1 := hF.less (base' := w.heap.size) (by simp)
  have c1 : w1.cell? ⟨w.heap.size, 1, none⟩ = some (.slice A2 m c2) := hX1.cell 1
  have HLT := Lib.hid hF.lt
  have hgw : w.heap.size < g := by simp at hg; omega
  clear hX hb0 hb1 hF hg
  go_wp2_with fail
  go_loopw [36] (fun u36 wr => ∃ i : Nat, u36 = .int .i64 i ∧ i ≤ m ∧ Blk wr w.heap.size 89 #[.int .u32 next, .slice A2 m c2] ∧ Blk wr g 37 (famV rs fs).toArray ∧ FamAt wr w.heap.size rs fs i ∧ Below w.heap.size w wr) (fun u36 _ => m - (intOf u36).toNat)
  case atStart => exact ⟨0, rfl, by omega, hX1, hG, hF1.at_, hb01⟩
  case round =>
    clear hX1 hG hF1 hb01 c1
    obtain ⟨i, rfl, hi, hX, hG, hF, hb⟩ := hrel
    have q0 : (0 : Int) ≤ (i : Int) := by omega
    by_cases hlt : i < m
    · have q1 : (i : Int) < (m : Int) := by omega
      obtain ⟨f, hf⟩ : ∃ f, fs[i]? = some f := ⟨_, List.getElem?_eq_getElem (by omega)⟩
      have hx := RA.out i hlt
      have GT := Lib.hid (GET.out i hlt)
      obtain ⟨r, hr⟩ : ∃ r, recK l i = r := ⟨_, rfl⟩
      rw [hr] at hx GT
      have ho := hF.own i f r (Nat.le_refl _) hf hx
      obtain ⟨L, hL⟩ : ∃ L, r.length = L := ⟨_, rfl⟩
      have cG : wr.cell? ⟨g, i, none⟩ = some (.slice (some ⟨f.1, 0, none⟩) L f.2) := by
        rw [hG.cell, List.getElem?_toArray, famV_at rs fs i r f hx hf, hL]
      rw [hL] at ho
      have HH := Lib.hid (And.intro hX (And.intro hG (And.intro hF (And.intro hb (And.intro hL (And.intro hf hx))))))
      have HO := Lib.hid ho
      clear hX hG hF hb hL hf hx ho hr
      go_wp2_with fail
      refine (GT.out _ HH.out.2.2.2.1).mono ?_
      rintro e w2 ⟨A3, c3, rfl, own3, hc3, hb3⟩
      rw [HH.out.2.2.2.2.1] at own3 hc3 ⊢
      have b2 := bto0 HH.out.2.2.2.1 hb3
      have m40 : w2.cell? ⟨w.heap.size, 1, none⟩ = some (.slice A2 m c2) := (HH.out.1.below hb3 HH.out.1.lt).cell 1
      obtain ⟨ad2, r', rfl, _, hq', d4⟩ := (R2.out.below b2).text hlt
      obtain rfl : r = r' := by rw [HH.out.2.2.2.2.2.2] at hq'; exact Option.some.inj hq'
      have cv1 : ∀ j, (convert 37 9 (.slice A3 L c3)).run Try.prog (w2.drewN j) = .ok (.string (str r)) (w2.drewN j) := fun j => ((own3.reads.1).drewN j).cnv
      have cv2 : ∀ j, (convert 37 9 (.slice (some ⟨f.1, 0, none⟩) L f.2)).run Try.prog (w2.drewN j) = .ok (.string (str r)) (w2.drewN j) := fun j => (((HO.out.below hb3).reads.1).drewN j).cnv
      have HA := Lib.hid (And.intro own3 (And.intro hb3 b2))
      clear own3 hb3 b2 hq'
      go_wp2_with fail
      go_quiet (fail)
      have own3 : Own (w2.drewN nq) wr.heap.size (.slice A3 L c3) r := HA.out.1
      obtain ⟨w3, hcl, hcb, hch, hcs⟩ := own3.clr
      have b3 : Below wr.heap.size wr w3 := hcb _ _ (Nat.le_refl _) (bdr HA.out.2.1 nq)
      have ho3 := HO.out.below b3
      obtain ⟨w4, kcl, kcb, kch, kcs⟩ := ho3.clr
      have b4 : Below w.heap.size w w4 := kcb _ _ (Nat.le_refl _) (bto0 HH.out.2.2.2.1 b3)
      have hF3 := HH.out.2.2.1.below b3
      have hF4 := hF3.next HLT.out HH.out.2.2.2.2.2.1 (fun g' hg' hne => kch g' hg' (fun e => hne (by injection e with e; exact e.symm)))
      have hfw := HO.out.block_lt
      have hX4 : Blk w4 _ _ _ := (kch _ (Nat.lt_of_lt_of_le HH.out.1.lt b3.size) (fun e => own_blk_ne (e := 5) HO.out HH.out.1 (by decide) e)).trans (HH.out.1.below b3 HH.out.1.lt)
      have hG4 : Blk w4 _ _ _ := (kch _ (Nat.lt_of_lt_of_le HH.out.2.1.lt b3.size) (fun e => own_blk_ne (e := 5) HO.out HH.out.2.1 (by decide) e)).trans (HH.out.2.1.below b3 HH.out.2.1.lt)
      have Hcl := Lib.hid (And.intro hcl kcl)
      have HE := Lib.hid (And.intro hX4 (And.intro hG4 (And.intro hF4 b4)))
      clear hcl kcl hcb hch hcs kcb kch kcs b3 b4 hF3 hF4 hX4 hG4 ho3 own3 cv1 cv2 m40 d4 hfw
      go_wp2_with fail
      rw [Hcl.out.1]
      go_wp2_with fail
      rw [Hcl.out.2]
      go_wp2
      go_roundw
      case rel => exact ⟨i + 1, by go_num, by omega, HE.out.1, HE.out.2.1, HE.out.2.2.1, HE.out.2.2.2⟩
      case measure => simp [intOf]; omega
    · obtain rfl : i = m := by omega
      have HH := Lib.hid (And.intro hX hb)
      clear hX hG hF hb
      go_wp2_with fail
      refine (ALL.out _ HH.out.2).mono ?_
      rintro e w2 ⟨g', fs', rfl, hfs', hG, hF, hg', hb2⟩
      have hX2 := HH.out.1.below hb2 HH.out.1.lt
      have b2 := bto0 HH.out.2 hb2
      have c1 : w2.cell? ⟨w.heap.size, 1, none⟩ = some (.slice A2 i c2) := hX2.cell 1
      have HG := Lib.hid (And.intro hX2 (And.intro hG (And.intro hF b2)))
      have hz2 := hb2.size
      clear hG hF hb2 hX2 b2
      go_wp2_with fail
      go_loopw [89] (fun u89 wr => ∃ j : Nat, u89 = .int .i64 j ∧ j ≤ i ∧ Below w2.heap.size w2 wr) (fun u89 _ => i - (intOf u89).toNat)
      case atStart => exact ⟨0, rfl, by omega, Below.refl _ _⟩
      case round =>
        obtain ⟨j, rfl, hj, hbx⟩ := hrel
        have p0 : (0 : Int) ≤ (j : Int) := by omega
        clear c1
        have Hbx := Lib.hid hbx
        by_cases hjt : j < i
        · have p1 : (j : Int) < (i : Int) := by omega
          obtain ⟨f, hf⟩ : ∃ f, fs'[j]? = some f := ⟨_, List.getElem?_eq_getElem (by omega)⟩
          have hx := RA.out j hjt
          obtain ⟨r, hr⟩ : ∃ r, recK l j = r := ⟨_, rfl⟩
          rw [hr] at hx
          have ho := (HG.out.2.2.1.own j f r hf hx).below hbx
          have cG : wr.cell? ⟨g', j, none⟩ = some (.slice (some ⟨f.1, 0, none⟩) r.length f.2) := by
            rw [(HG.out.2.1.below hbx HG.out.2.1.lt).cell, List.getElem?_toArray, famV_at rs fs' j r f hx hf]
          have m40 : wr.cell? ⟨w.heap.size, 1, none⟩ = some (.slice A2 i c2) := (HG.out.1.below hbx HG.out.1.lt).cell 1
          obtain ⟨ad2, r', rfl, _, hq', d4⟩ := (R2.out.below (bto0 HG.out.2.2.2 hbx)).text hjt
          obtain rfl : r = r' := by rw [hx] at hq'; exact Option.some.inj hq'
          have cv2 : ∀ j, (convert 37 9 (.slice (some ⟨f.1, 0, none⟩) r.length f.2)).run Try.prog (wr.drewN j) = .ok (.string (str r)) (wr.drewN j) := fun j => ((ho.reads.1).drewN j).cnv
          clear hf hx hr ho hq' hbx
          obtain ⟨L, hL⟩ : ∃ L, r.length = L := ⟨_, rfl⟩
          rw [hL] at cG cv2
          clear hL
          go_wp2_with fail
          go_quiet (fail)
          clear cv2 d4 m40 cG
          go_wp2
          go_roundw
          case rel => exact ⟨j + 1, by go_num, by omega, bdr Hbx.out nq⟩
          case measure => simp [intOf]; omega
        · obtain rfl : j = i := by omega
          have bx := bto0 HG.out.2.2.2 hbx
          have HX := Lib.hid bx
          clear bx hbx
          go_wp2_with fail
          refine (LOW.out _ HX.out).mono ?_
          rintro e w5 ⟨rfl, hb5⟩
          go_wp2_with fail
          refine (HIGH.out _ (bto0 HX.out hb5)).mono ?_
          rintro e w6 ⟨rfl, hb6⟩
          have HY := Lib.hid (bto0 (bto0 HX.out hb5) hb6)
          clear hb5 hb6
          go_wp2
          go_ret
          exact ⟨rfl, HY.out⟩
end
end Go.Proofs.Ytcpbkaeilmabaaa
