
/-
  The reference's Values; Same of two rows that read the same; a row's line.
-/
import Derived.Test.YtblpflobpffjnaaDoorWd
import Derived.Test.YtblpflobpffjnaaDoorQp
set_option linter.unusedSimpArgs false
set_option linter.unusedVariables false
namespace Go.Proofs.YtblpflobpffjnaaDoor
open Go.RowKit

theorem mem_join : ∀ {ps : List (List UInt8)} {p : List UInt8}, p ∈ ps → p.length ≤ (joinB ps).length
  | [x], p, h => by rw [List.mem_singleton.1 h]; exact Nat.le_refl _
  | x :: y :: r, p, h => by
    rw [joinB_cons _ (by simp), List.length_append, List.length_cons, List.length_cons, List.length_cons]
    rcases List.mem_cons.1 h with rfl | h
    · omega
    · have := mem_join (ps := y :: r) h
      omega
theorem allR_drop {ps : List (List UInt8)} {k : Nat} {p : List UInt8} (h : ps[k]? = some p) : allR (ps.drop k) = if (rreadL p).2 = true then (allR (ps.drop (k + 1))).map ((rreadL p).1 :: ·) else none := by
  obtain ⟨hl, e⟩ := List.getElem?_eq_some_iff.1 h
  rw [List.drop_eq_getElem_cons hl, e, allR]
theorem Reads.strs {w : World} {B : Nat} {A : Option Addr} {n k : Nat} {l : List (List UInt8)} (hr : Reads w B 1 A n (vStr l)) (hk : k < n) :
    ∃ ad p, A = some ad ∧ ad.block < B ∧ l[k]? = some p ∧ w.cell? (ad.add k) = some (.string (str p)) := by
  obtain ⟨ad, u, hA, hb, hu, hc⟩ := hr.at_ hk
  simp only [vStr, List.getElem?_map, Option.map_eq_some_iff] at hu
  obtain ⟨p, hp, rfl⟩ := hu
  exact ⟨ad, p, hA, hb, hp, hc⟩

set_option maxRecDepth 100000 in
set_option maxHeartbeats 4000000 in
theorem rvalues_any (L : List UInt8) (w : World) (hs : L.length ≤ 3000) : Calls Tryd.prog 15 #[.string (str L)] w (RetVals (valsR L) w) := by
  obtain ⟨i0, hi0, hz0, hs0, hy0⟩ := int_info8 Tryd.info30
  have HP := Lib.hid fun W => parts_any L W (by omega)
  have hjl := partsL_join _ false [] L (Nat.le_refl _)
  rw [List.nil_append] at hjl
  have hall : ∀ p ∈ partsL false [] L, p.length ≤ 3000 := fun p hp => by have := mem_join hp; rw [hjl] at this; omega
  have hlen := joinB_len (partsL false [] L)
  rw [hjl] at hlen
  unfold valsR
  generalize partsL false [] L = ps at *
  have HALL := Lib.hid (And.intro hall (show ps.length ≤ 3001 by omega))
  have hO := own_empty w 55 3 (g := w.heap.size) rfl
  have hb0 : Below w.heap.size w (w.alloc (.cells #[] 55)) := ball (Below.refl _ _) _
  clear hs hjl hall hlen
  go_enter Tryd.func15, Tryd.ntmps15
  go_wp2_with fail
  refine (HP.out _).mono ?_
  rintro e w1 ⟨A, c, rfl, hr, hb1, hA⟩
  have hne0 : ∀ ad, A = some ad → (Value.slice (some ⟨w.heap.size, 0, none⟩) 0 0).ownBlock ≠ some ad.block := fun ad h e => by
    have h1 := hA ad h
    simp only [Value.ownBlock, Option.some.injEq] at e
    simp at h1
    omega
  have hO1 := own_below hO hb1
  have hbw1 : Below w.heap.size w w1 := bto0 hb0 hb1
  have HR := Lib.hid hr
  have pI : (ps.length : Int) ≤ 3001 := by have := HALL.out.2; omega
  clear hO hb0 hb1 hr
  go_wp2
  go_loopw [4, 14] (fun ov kv wr => ∃ (k : Nat) (acc : List Vl), k ≤ ps.length ∧ kv = .int .i64 k ∧ acc.length ≤ k ∧ wr.ownsRow w.heap.size 55 3 ov acc.length (vV acc) ∧ Reads wr w1.heap.size 1 A ps.length (vStr ps) ∧ w1.heap.size ≤ wr.heap.size ∧ (∀ ad, A = some ad → ov.ownBlock ≠ some ad.block) ∧ Below w.heap.size w wr ∧ Hid (allR ps = (allR (ps.drop k)).map (acc ++ ·))) (fun _ kv _ => ps.length - (intOf kv).toNat)
  case atStart => exact ⟨0, [], Nat.zero_le _, rfl, Nat.zero_le _, hO1, HR.out, Nat.le_refl _, hne0, hbw1, Lib.hid (by rw [List.drop_zero]; cases allR ps <;> simp)⟩
  case round =>
    clear hO1 hne0
    obtain ⟨k, acc, hk, rfl, hak, hown, hrp, hzz, hne, hb, hal⟩ := hrel
    have k0 : (0 : Int) ≤ (k : Int) := by omega
    have hsz1 := hb.size
    have HRP := Lib.hid (And.intro hrp (And.intro hzz hne))
    clear hne
    by_cases hlt : k < ps.length
    · have k1 : (k : Int) < (ps.length : Int) := by omega
      obtain ⟨ad, p, rfl, hab, hp, hc⟩ := hrp.strs hlt
      have HQ := Lib.hid fun W => rread_any (str p) W (by rw [str_size]; have := HALL.out.1 p (List.mem_of_getElem? hp); omega)
      rw [str_data] at HQ
      have HD := Lib.hid (allR_drop hp)
      have hno := rread_no (l := p)
      generalize rreadL p = r at *
      clear hp
      have HB := Lib.hid hb
      by_cases hok : r.2 = true
      · obtain ⟨⟨vk, vi, vs⟩, b⟩ := r
        simp only at hok
        subst hok
        unfold tupV Vl.agg at HQ
        simp only at HQ
        clear hno
        go_wp2_with fail
        refine (HQ.out _).mono ?_
        rintro e w2 ⟨rfl, hb2⟩
        have hown1 := own_below hown hb2
        have hbw2 : Below w.heap.size w w2 := bto0 HB.out hb2
        have hrp2 := HRP.out.1.below (hb2.mono HRP.out.2.1)
        have hz2 : w1.heap.size ≤ w2.heap.size := Nat.le_trans HRP.out.2.1 hb2.size
        have hsz2 := hbw2.size
        have P1 := Lib.hid (At3.new w2 vk vi vs 55)
        obtain ⟨d0, d1, d2, -, -, -⟩ := P1.out
        clear hown hb hb2 hrp
        go_wp2_with (at_builtin; go_loud (refine wpList_pushR (news := Vl.cells ⟨vk, vi, vs⟩) rfl _ _ 49 rfl w.heap.size 55 i0 _ 3 32 Tryd.underlying49 hi0 hz0 hs0 hy0 rfl (by decide) u4 acc.length _ rfl (hown1.alloc _) rfl _ rfl (by simp) rfl (cells_one30 _) (by have := HALL.out; omega) (by omega) (by simp; omega) ?_); intro v3 w3 hown3 hg3 hvb3)
        have hbw3 : Below w.heap.size w w3 := belowX_grown (hown1.alloc _) (Nat.le_refl _) (by simp; omega) hg3 (ball hbw2 _)
        have hrp3 : Reads w3 w1.heap.size 1 (some ad) ps.length (vStr ps) := hrp2.same_ fun ad hA hlt => by
          rw [hg3.block ad.block (by simp; omega) (fun e => HRP.out.2.2 ad hA e.symm)]
          rw [Below.heap_alloc _ _ _ (by simp; omega), Below.heap_alloc _ _ _ (by omega)]
        have hz3 : w1.heap.size ≤ w3.heap.size := by have := hg3.size; simp at this; omega
        have hne3 : ∀ ad', some ad = some ad' → v3.ownBlock ≠ some ad'.block := fun ad' hA e => by
          injection hA with hA
          subst hA
          rcases hvb3 with h | h
          · exact HRP.out.2.2 ad rfl (h.symm.trans e)
          · have h2 := h.symm.trans e
            have h3 : w1.heap.size + 0 ≤ w2.heap.size := hz2
            simp at h2
            omega
        rw [← vV_snoc30] at hown3
        have hst : Hid (allR ps = (allR (ps.drop (k + 1))).map ((acc ++ [⟨vk, vi, vs⟩]) ++ ·)) := Lib.hid (by
          rw [hal.out, HD.out, if_pos trivial]
          cases allR (ps.drop (k + 1)) <;> simp)
        go_wp2
        go_roundw
        case rel => exact ⟨k + 1, acc ++ [⟨vk, vi, vs⟩], by omega, by go_num, by simp; omega, by simpa using hown3, hrp3, hz3, hne3, hbw3, hst⟩
        case measure => simp [intOf]; omega
      · have hok' : r.2 = false := by simpa using hok
        have hpp := hno hok'
        have hfin : Hid (allR ps = none) := Lib.hid (by rw [hal.out, HD.out, if_neg hok]; rfl)
        rw [hpp] at HQ
        unfold tupV Vl.agg vZero at HQ
        simp only at HQ
        clear hno hok hok' hpp hown
        go_wp2_with fail
        refine (HQ.out _).mono ?_
        rintro e w2 ⟨rfl, hb2⟩
        have hbw2 := Lib.hid (ball (ball (bto0 HB.out hb2) (.cells #[.int .u8 0, .int .i64 0, .string ⟨#[]⟩] 55)) (.cells #[] 55))
        go_wp2
        go_ret2
        exact ⟨hbw2.out, .inl ⟨hfin.out, _, _, rfl⟩⟩
    · obtain rfl : k = ps.length := by omega
      have hfin : Hid (allR ps = some acc) := Lib.hid (by rw [hal.out, List.drop_length]; simp [allR])
      obtain ⟨A2, c2, e2, hc2⟩ := own_form hown
      have hrds := e2 ▸ hown
      have HX := Lib.hid (And.intro hb (Reads.of_own hrds))
      subst e2
      clear hown hrds hb hrp
      go_wp2
      go_ret2
      exact ⟨HX.out.1, .inr ⟨_, A2, c2, hfin.out, rfl, HX.out.2⟩⟩
end Go.Proofs.YtblpflobpffjnaaDoor
