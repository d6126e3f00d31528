
/-
  The reference's parts.
-/
import Derived.Test.YtblpflobpffjnaaDoorWc
set_option linter.unusedSimpArgs false
set_option linter.unusedVariables false
namespace Go.Proofs.YtblpflobpffjnaaDoor
open Go.RowKit

/-- How far the parting of a line is: quoted, at byte k, a part begins at byte fr. -/
structure St30 (L : List UInt8) (q : Bool) (k fr : Nat) (out : List (List UInt8)) : Prop where
  e : partsL false [] L = out ++ partsL q ((L.drop fr).take (k - fr)) (L.drop (max k fr))
  n : ∀ j, k ≤ j → j < fr → L[j]? ≠ some 39
  k : k ≤ L.length
  f : fr ≤ L.length
theorem St30.start (L : List UInt8) : St30 L false 0 0 [] := ⟨by simp, fun j _ h => by omega, by omega, by omega⟩
theorem drop_at30 {L : List UInt8} {k : Nat} {c : UInt8} (h : L[k]? = some c) : L.drop k = c :: L.drop (k + 1) := by
  obtain ⟨hl, e⟩ := List.getElem?_eq_some_iff.1 h
  rw [List.drop_eq_getElem_cons hl, e]
theorem cut_next {L : List UInt8} {k fr : Nat} {c : UInt8} (h : L[k]? = some c) (hf : fr ≤ k) : (L.drop fr).take (k - fr) ++ [c] = (L.drop fr).take (k + 1 - fr) := by
  have e : k + 1 - fr = (k - fr) + 1 := by omega
  have h2 : (L.drop fr)[k - fr]? = some c := by rw [List.getElem?_drop, ← h]; congr 1; omega
  rw [e, List.take_add_one, h2]
  rfl
theorem St30.quote {L : List UInt8} {q : Bool} {k fr : Nat} {out : List (List UInt8)} (h : St30 L q k fr out) (hc : L[k]? = some 39) : fr ≤ k ∧ St30 L (!q) (k + 1) fr out := by
  have hf : fr ≤ k := by
    rcases Nat.lt_or_ge k fr with h1 | h1
    · exact absurd hc (h.n k (Nat.le_refl _) h1)
    · exact h1
  have hl := (List.getElem?_eq_some_iff.1 hc).1
  refine ⟨hf, ?_, fun j _ _ => by omega, by omega, h.f⟩
  rw [h.e, Nat.max_eq_left hf, drop_at30 hc, partsL_quote, cut_next hc hf, Nat.max_eq_left (by omega)]
theorem St30.else_ {L : List UInt8} {q : Bool} {k fr : Nat} {out : List (List UInt8)} {c : UInt8} (h : St30 L q k fr out) (hc : L[k]? = some c) (h39 : c ≠ 39) (hn : ¬ (q = false ∧ fr ≤ k ∧ (L.drop k).take 3 = [32, 124, 32])) : St30 L q (k + 1) fr out := by
  have hl := (List.getElem?_eq_some_iff.1 hc).1
  refine ⟨?_, fun j h1 h2 => h.n j (by omega) h2, by omega, h.f⟩
  rcases Nat.lt_or_ge k fr with h1 | h1
  · rw [h.e, Nat.max_eq_right (by omega), Nat.max_eq_right (by omega)]
    have e1 : k - fr = 0 := by omega
    have e2 : k + 1 - fr = 0 := by omega
    rw [e1, e2]
  · rw [h.e, Nat.max_eq_left h1, drop_at30 hc, partsL_else _ _ h39, cut_next hc h1, Nat.max_eq_left (by omega)]
    rintro ⟨r1, rfl, r3⟩
    refine hn ⟨r1, h1, ?_⟩
    rw [drop_at30 hc, List.take_succ_cons, r3]
theorem St30.bar {L : List UInt8} {k fr : Nat} {out : List (List UInt8)} (h : St30 L false k fr out) (hf : fr ≤ k) (hb : (L.drop k).take 3 = [32, 124, 32]) : St30 L false (k + 1) (k + 3) (out ++ [(L.drop fr).take (k - fr)]) := by
  have hd := drop3_eq hb
  have hl : k + 3 ≤ L.length := by
    have := congrArg List.length hd
    simp only [List.length_drop, List.length_cons] at this
    omega
  have e3 : (L.drop k).drop 3 = L.drop (k + 3) := by rw [List.drop_drop]
  refine ⟨?_, fun j h1 h2 => ?_, by omega, by omega⟩
  · have e1 : k + 1 - (k + 3) = 0 := by omega
    rw [h.e, Nat.max_eq_left hf, hd, partsL_bar, e3, Nat.max_eq_right (by omega), e1]
    simp
  · have : L[j]? = (L.drop k)[j - k]? := by rw [List.getElem?_drop]; congr 1; omega
    rw [this, hd]
    have hj : j - k = 1 ∨ j - k = 2 := by omega
    rcases hj with e | e <;> rw [e] <;> simp
theorem St30.done {L : List UInt8} {q : Bool} {fr : Nat} {out : List (List UInt8)} (h : St30 L q L.length fr out) : partsL false [] L = out ++ [L.drop fr] := by
  rw [h.e, Nat.max_eq_left h.f, List.drop_length, partsL_nil, List.take_of_length_le (by rw [List.length_drop]; omega)]

def vStr (l : List (List UInt8)) : List Value := l.map fun x => .string (str x)
theorem vStr_len (l : List (List UInt8)) : (vStr l).length = l.length := by simp [vStr]
theorem vStr_snoc (l : List (List UInt8)) (x : List UInt8) : vStr (l ++ [x]) = vStr l ++ [.string (str x)] := by simp [vStr]
theorem Tryd.infoS30 : (Tryd.prog.info? 9).map (fun i => (i.zero, i.size, i.bytes)) = some (some (.string ⟨#[]⟩), 1, 16) := by kernel_rfl
theorem str_byte {L : List UInt8} {k : Nat} (h : k < (str L).size) : L[k]? = some (str L)[k] := str_at L k h
def RetStrs (l : List (List UInt8)) (w : World) (e : Ending) (w' : World) : Prop := ∃ A c, e = .returned (.slice A l.length c) ∧ Reads w' w'.heap.size 1 A l.length (vStr l) ∧ Below w.heap.size w w' ∧ ∀ ad, A = some ad → w.heap.size ≤ ad.block
theorem strs_len {L : List UInt8} {q : Bool} {k fr : Nat} {out : List (List UInt8)} (h : St30 L q k fr out) : out.length ≤ L.length := by
  have h1 := partsL_join _ false [] L (Nat.le_refl _)
  have h2 := joinB_len (partsL false [] L)
  rw [h1] at h2
  have h3 : partsL q ((L.drop fr).take (k - fr)) (L.drop (max k fr)) ≠ [] := partsL_ne _ _ _ _ (Nat.le_refl _)
  have h4 := List.length_pos_iff.2 h3
  have h5 := congrArg List.length h.e
  rw [List.length_append] at h5
  simp only [List.nil_append] at h2
  omega

set_option maxRecDepth 100000 in
set_option maxHeartbeats 4000000 in
theorem parts_any (L : List UInt8) (w : World) (hs : L.length ≤ 1000000) : Calls Tryd.prog 31 #[.string (str L)] w (RetStrs (partsL false [] L) w) := by
  obtain ⟨i0, hi0, hz0, hs0, hy0⟩ := int_info8 Tryd.infoS30
  have HSZ := Lib.hid hs
  have RSZ := Lib.hid (str_size L)
  have sI : ((str L).size : Int) ≤ 1000000 := by rw [str_size]; omega
  clear hs
  have hO := own_empty w 9 1 (g := w.heap.size) rfl
  have hb0 : Below w.heap.size w (w.alloc (.cells #[] 9)) := ball (Below.refl _ _) _
  go_enter Tryd.func31, Tryd.ntmps31
  go_wp2
  go_loopw [3, 4, 5, 6] (fun ov qv fv kv wr => ∃ (q : Bool) (k fr : Nat) (out : List (List UInt8)), qv = .bool q ∧ fv = .int .i64 fr ∧ kv = .int .i64 k ∧ Hid (St30 L q k fr out) ∧ wr.ownsRow w.heap.size 9 1 ov out.length (vStr out) ∧ Below w.heap.size w wr) (fun _ _ _ kv _ => L.length - (intOf kv).toNat)
  case atStart => exact ⟨false, 0, 0, [], rfl, rfl, rfl, Lib.hid (St30.start L), hO, hb0⟩
  case round =>
    clear hO hb0
    obtain ⟨q, k, fr, out, rfl, rfl, rfl, hst, hown, hb⟩ := hrel
    have k0 : (0 : Int) ≤ (k : Int) := by omega
    have f0 : (0 : Int) ≤ (fr : Int) := by omega
    have hkl := hst.out.k
    have hfl := hst.out.f
    have kI : (k : Int) ≤ 1000000 := by have := HSZ.out; omega
    have fI : (fr : Int) ≤ ((str L).size : Int) := by rw [str_size]; omega
    have HB := Lib.hid (And.intro hown hb)
    have HSb := Lib.hid hb.size
    have hol := strs_len hst.out
    have HOL := Lib.hid hol
    clear hol hkl hfl
    by_cases hlt : k < (str L).size
    · have k1 : (k : Int) < ((str L).size : Int) := by omega
      have hcb := str_byte hlt
      have HT : Hid (∀ b, decide ((L.drop k).take 3 = [32, 124, 32]) = b → (((str L).extract k (k + 3)).toList == [32, 124, 32]) = b) := Lib.hid fun b hb => by
        rw [extract_str, show k + 3 - k = 3 from by omega, str_toList, ← hb]
        by_cases h : (L.drop k).take 3 = [32, 124, 32] <;> simp [h]
      by_cases hc : (str L)[k] = 39
      · have hcv : (((str L)[k].toNat : Int) == 39) = true := by rw [hc]; rfl
        rw [hc] at hcb
        obtain ⟨hfk, hs2⟩ := hst.out.quote hcb
        have fk : (fr : Int) ≤ (k : Int) := by omega
        have hTb := HT.out false (decide_eq_false (by rw [drop_at30 hcb]; intro h; simp at h))
        have HS2 := Lib.hid hs2
        clear hs2 hcb hc
        rcases q
        · go_wp2
          refine ⟨⟨_, k + 1, fr, out, rfl, rfl, by go_num, HS2, HB.out.1, HB.out.2⟩, ?_⟩
          have := RSZ.out
          simp [intOf]; omega
        · rcases Int.lt_or_le ((str L).size : Int) ((k : Int) + 3) with h3 | h3
          · go_wp2
            refine ⟨⟨_, k + 1, fr, out, rfl, rfl, by go_num, HS2, HB.out.1, HB.out.2⟩, ?_⟩
            have := RSZ.out
            simp [intOf]; omega
          · go_wp2
            refine ⟨⟨_, k + 1, fr, out, rfl, rfl, by go_num, HS2, HB.out.1, HB.out.2⟩, ?_⟩
            have := RSZ.out
            simp [intOf]; omega
      · have hcv := (u8_ne hc).1
        by_cases hbar : q = false ∧ fr ≤ k ∧ (L.drop k).take 3 = [32, 124, 32]
        · obtain ⟨rfl, hfk, hb3⟩ := hbar
          have fk : (fr : Int) ≤ (k : Int) := by omega
          have hTb := HT.out true (decide_eq_true hb3)
          have h3 : (k : Int) + 3 ≤ ((str L).size : Int) := by
            have := congrArg List.length hb3
            simp only [List.length_take, List.length_drop, List.length_cons, List.length_nil] at this
            rw [str_size]; omega
          have HS2 := Lib.hid (hst.out.bar hfk hb3)
          have hex : (str L).extract fr k = str ((L.drop fr).take (k - fr)) := extract_str L fr k
          obtain ⟨X, hX⟩ : ∃ X, (L.drop fr).take (k - fr) = X := ⟨_, rfl⟩
          rw [hX] at hex HS2
          clear hb3 hc hcb hX
          have hown1 := hown
          have hsz1 := hb.size
          go_wp2_with (at_builtin; go_loud (refine wpList_pushX (news := [.string (str X)]) rfl _ _ 28 rfl w.heap.size 9 i0 _ 1 16 Tryd.underlying28 hi0 hz0 hs0 hy0 rfl (by decide) u3 out.length _ rfl hown1 rfl _ rfl rfl rfl (by intro u hu; rw [List.mem_singleton] at hu; subst hu; rfl) (by have := HOL.out; have := HSZ.out; omega) (by omega) hsz1 ?_); intro v2 w2 hown2 hg2)
          have hbw2 : Below w.heap.size w w2 := belowX_grown hown1 (Nat.le_refl _) hsz1 hg2 hb
          rw [← vStr_snoc] at hown2
          refine ⟨⟨false, k + 1, k + 3, out ++ [X], rfl, by go_num, by go_num, HS2, by simpa using hown2, hbw2⟩, ?_⟩
          have := RSZ.out
          simp [intOf]; omega
        · have HS2 := Lib.hid (hst.out.else_ hcb hc hbar)
          rcases q
          · rcases Int.lt_or_le (k : Int) (fr : Int) with fk | fk
            · clear hc hcb hbar
              go_wp2
              refine ⟨⟨_, k + 1, fr, out, rfl, rfl, by go_num, HS2, HB.out.1, HB.out.2⟩, ?_⟩
              have := RSZ.out
              simp [intOf]; omega
            · have hTb := HT.out false (decide_eq_false (fun h => hbar ⟨rfl, by omega, h⟩))
              clear hc hcb hbar
              rcases Int.lt_or_le ((str L).size : Int) ((k : Int) + 3) with h3 | h3
              · go_wp2
                refine ⟨⟨_, k + 1, fr, out, rfl, rfl, by go_num, HS2, HB.out.1, HB.out.2⟩, ?_⟩
                have := RSZ.out
                simp [intOf]; omega
              · go_wp2
                refine ⟨⟨_, k + 1, fr, out, rfl, rfl, by go_num, HS2, HB.out.1, HB.out.2⟩, ?_⟩
                have := RSZ.out
                simp [intOf]; omega
          · clear hc hcb hbar
            go_wp2
            refine ⟨⟨_, k + 1, fr, out, rfl, rfl, by go_num, HS2, HB.out.1, HB.out.2⟩, ?_⟩
            have := RSZ.out
            simp [intOf]; omega
    · have hk : k = L.length := by have := RSZ.out; have := hst.out.k; omega
      have k1 : ((str L).size : Int) ≤ (k : Int) := by omega
      rw [hk] at hst
      have HD := Lib.hid hst.out.done
      have hex : (str L).extract fr (str L).size = str (L.drop fr) := by rw [str_size]; exact ext_lo L fr
      obtain ⟨X, hX⟩ : ∃ X, L.drop fr = X := ⟨_, rfl⟩
      rw [hX] at hex HD
      clear hX hk
      have hown1 := hown
      have hsz1 := hb.size
      go_wp2_with (at_builtin; go_loud (refine wpList_pushX (news := [.string (str X)]) rfl _ _ 28 rfl w.heap.size 9 i0 _ 1 16 Tryd.underlying28 hi0 hz0 hs0 hy0 rfl (by decide) u3 out.length _ rfl hown1 rfl _ rfl rfl rfl (by intro u hu; rw [List.mem_singleton] at hu; subst hu; rfl) (by have := HOL.out; have := HSZ.out; omega) (by omega) hsz1 ?_); intro v2 w2 hown2 hg2)
      have hbw2 : Below w.heap.size w w2 := belowX_grown hown1 (Nat.le_refl _) hsz1 hg2 hb
      rw [← vStr_snoc] at hown2
      have hown3 : w2.ownsRow w.heap.size 9 1 v2 (out ++ [X]).length (vStr (out ++ [X])) := by simpa using hown2
      obtain ⟨A, c, rfl, hc⟩ := own_form hown3
      go_wp2
      go_ret
      rw [HD.out]
      exact ⟨A, c, rfl, Reads.of_own hown3, hbw2, fun ad h => own_base hown3 h⟩
end Go.Proofs.YtblpflobpffjnaaDoor
