/-
  Tokens of queries: contract of Tokens.
-/
import Derived.Test.YtbmfojeklhbocaaXh
import Derived.Test.YtbmfojeklhbocaaWx
import Derived.Test.YtbmfojeklhbocaaOpen
set_option linter.unusedSimpArgs false
set_option linter.unusedVariables false
namespace Go.Proofs.Ytbmfojeklhbocaa
open Go.RowKit

abbrev Tk := Nat × List UInt8 × Nat
def tkC (x : Tk) : List Value := [.int .u8 (x.1 : Int), .string (str x.2.1), .int .i64 (x.2.2 : Int)]
def vTk (l : List Tk) : List Value := l.flatMap tkC
theorem vTk_len (l : List Tk) : (vTk l).length = l.length * 3 := flat_len _ 3 l fun _ _ => rfl
theorem vTk_at {l : List Tk} {k : Nat} {v : Tk} (h : l[k]? = some v) (j : Nat) (hj : j < 3) : (vTk l)[k * 3 + j]? = (tkC v)[j]? := flat_at tkC 3 l k v j (fun _ _ => rfl) h hj
theorem vTk_app (a b : List Tk) : vTk (a ++ b) = vTk a ++ vTk b := by simp [vTk]
theorem vTk_one (x : Tk) : vTk [x] = tkC x := by simp [vTk]
theorem tkC_oneCell (x : Tk) : ∀ u ∈ tkC x, u.oneCell' = true := by
  intro u hu
  simp only [tkC, List.mem_cons, List.not_mem_nil, or_false] at hu
  rcases hu with rfl | rfl | rfl <;> rfl
def TksR.app (a : List Tk) : TksR → TksR
  | .bad e => .bad e
  | .ok l => .ok (a ++ l)
theorem app_cons (a : List Tk) (x : Tk) (r : TksR) : (r.cons x).app a = r.app (a ++ [x]) := by
  cases r <;> simp [TksR.app, TksR.cons]
/-- The tokens that come back. -/
def RetTks (w : World) : TksR → Ending → World → Prop
  | .bad k, e, w' => e = .returned (.tuple #[.slice none 0 0, .int .i64 (k : Int)]) ∧ Below w.heap.size w w'
  | .ok l, e, w' => ∃ A c, e = .returned (.tuple #[.slice A l.length c, .int .i64 0]) ∧ l.length ≤ c ∧ w'.ownsRow w.heap.size 29 3 (.slice A l.length c) l.length (vTk l) ∧ Below w.heap.size w w'
theorem Try.infoTk : (Try.prog.info? 29).map (fun i => (i.zero, i.size, i.bytes)) = some (some (.agg #[.int .u8 0, .string ⟨#[]⟩, .int .i64 0]), 3, 32) := by kernel_rfl
theorem ext_drop (s : ByteArray) (p : Nat) : (s.extract p s.size).data.toList = s.data.toList.drop p := by
  rw [Lib.extract_data, List.take_of_length_le (by rw [List.length_drop, szL]; omega)]
/-- One step, where a token stands. -/
theorem toksN_step {f p cnt : Nat} {l : List UInt8} (hne : l.drop (skipN l) ≠ []) : toksN (f + 1) l p cnt = if cnt = 1000 then .bad 15 else if (tokN (l.drop (skipN l))).e ≠ 0 then .bad (tokN (l.drop (skipN l))).e else (toksN f ((l.drop (skipN l)).drop (tokN (l.drop (skipN l))).n) (p + skipN l + (tokN (l.drop (skipN l))).n) (cnt + 1)).cons ((tokN (l.drop (skipN l))).k, (tokN (l.drop (skipN l))).t, p + skipN l) := by
  rw [toksN]
  simp only [if_neg hne]
theorem toksN_end {f p cnt : Nat} {l : List UInt8} (he : l.drop (skipN l) = []) : toksN (f + 1) l p cnt = .ok [(0, [], p + skipN l)] := by
  rw [toksN]
  simp only [if_pos he]
set_option maxRecDepth 100000 in
set_option maxHeartbeats 8000000 in
theorem tokens_any (s : ByteArray) (hs : s.size ≤ 1000000000000000) (w : World) : Calls Try.prog 11 #[.string s] w (RetTks w (toksQ s.data.toList)) := by
  have hsI : (s.size : Int) ≤ 1000000000000000 := by omega
  by_cases hlong : 4096 < s.size
  · have g : (4096 : Int) < (s.size : Int) := by omega
    have HF : Hid (toksQ s.data.toList = .bad 4) := Lib.hid (by unfold toksQ; rw [szL, if_pos hlong])
    go_enter Try.func11, Try.ntmps11
    go_wp2
    go_ret2
    rw [HF.out]
    exact ⟨rfl, Below.refl _ _⟩
  · have g : (s.size : Int) ≤ 4096 := by omega
    have hs2 : s.size ≤ 4096 := by omega
    have HF : Hid (toksQ s.data.toList = toksN (s.size + 1) s.data.toList 0 0) := Lib.hid (by unfold toksQ; rw [szL, if_neg hlong])
    clear hlong hs hsI
    have SK := Lib.hid fun (p : Nat) (hp : p ≤ s.size) (W : World) => skip_any s p hp (by omega) W
    have TK := Lib.hid fun (p : Nat) (hp : p < s.size) (W : World) => token_any (s.extract p s.size) (by rw [← szL, ext_drop, List.length_drop, szL]; omega) (by rw [← szL, ext_drop, List.length_drop, szL]; omega) W
    obtain ⟨i0, hi0, hz0, hs0, hy0⟩ := int_info8 Try.infoTk
    have SK0 := Lib.hid fun W => SK.out 0 (by omega) W
    have hk0 := skipN_le s.data.toList
    rw [szL] at hk0
    have Hk0 := Lib.hid hk0
    clear hk0
    go_enter Try.func11, Try.ntmps11
    go_wp2_with fail
    refine (SK0.out _).mono ?_
    rintro e w1 ⟨rfl, hw1⟩
    subst hw1
    go_wp2_with fail
    go_loopw [4, 5] (fun lv av wr => ∃ (p f : Nat) (acc : List Tk), p ≤ s.size ∧ s.size - p ≤ f ∧ acc.length ≤ 1000 ∧ av = .int .i64 ((p + skipN (s.data.toList.drop p) : Nat) : Int) ∧ wr.ownsRow w.heap.size 29 3 lv acc.length (vTk acc) ∧ Below w.heap.size w wr ∧ toksN (s.size + 1) s.data.toList 0 0 = (toksN (f + 1) (s.data.toList.drop p) p acc.length).app acc) (fun _ av _ => s.size + 1 - (intOf av).toNat)
    case atStart =>
      refine ⟨0, s.size, [], by omega, by omega, by simp, by simp, ⟨rfl, .inl ⟨rfl, rfl⟩⟩, Below.refl _ _, ?_⟩
      rw [List.drop_zero]
      cases toksN (s.size + 1) s.data.toList 0 0 <;> rfl
    case round =>
      obtain ⟨p, f, acc, hp, hf, hal, rfl, hown, hb, he⟩ := hrel
      have hsk := skipN_le (s.data.toList.drop p)
      rw [List.length_drop, szL] at hsk
      obtain ⟨q, hq⟩ : ∃ q, p + skipN (s.data.toList.drop p) = q := ⟨_, rfl⟩
      have hdd : (s.data.toList.drop p).drop (skipN (s.data.toList.drop p)) = s.data.toList.drop q := by rw [List.drop_drop, hq]
      have hqs : q ≤ s.size := by omega
      have hpq : p ≤ q := by omega
      rw [hq]
      have q0 : (0 : Int) ≤ (q : Int) := by omega
      have hbs := hb.size
      have HE := Lib.hid he
      have HB := Lib.hid (And.intro hown hb)
      have HQ := Lib.hid hq
      clear he hq hown hb
      by_cases hlt : q < s.size
      · have q1 : (q : Int) < (s.size : Int) := by omega
        have hne : (s.data.toList.drop p).drop (skipN (s.data.toList.drop p)) ≠ [] := by
          rw [hdd]
          intro e
          have := congrArg List.length e
          rw [List.length_drop, szL] at this
          simp at this
          omega
        have hst := toksN_step (f := f) (p := p) (cnt := acc.length) hne
        rw [hdd] at hst
        have hex := ext_drop s q
        by_cases h1000 : acc.length = 1000
        · have e1 : ((acc.length : Int) == 1000) = true := by simp; omega
          have HF2 : Hid (toksQ s.data.toList = .bad 15) := Lib.hid (by rw [HF.out, HE.out, hst, if_pos h1000]; rfl)
          obtain ⟨A5, c5, rfl, hc5⟩ := own_form HB.out.1
          clear hst h1000
          go_wp2
          go_ret2
          rw [HF2.out]
          exact ⟨rfl, HB.out.2⟩
        · have e1 : ((acc.length : Int) == 1000) = false := by simp; omega
          rw [if_neg h1000] at hst
          have TQ := Lib.hid fun W => TK.out q hlt W
          rw [hex] at TQ
          have htn := tokN_n (s.data.toList.drop q)
          rw [List.length_drop, szL] at htn
          obtain ⟨t, ht⟩ : ∃ t, tokN (s.data.toList.drop q) = t := ⟨_, rfl⟩
          rw [ht] at TQ hst htn
          obtain ⟨tk, tt, tn, te⟩ := t
          simp only at TQ hst htn
          have Hst := Lib.hid hst
          have Htn := Lib.hid htn
          obtain ⟨A5, c5, rfl, hc5⟩ := own_form HB.out.1
          have aI : (acc.length : Int) ≤ 1000 := by omega
          have hal2 : acc.length < 1000 := by omega
          clear hst htn ht hne hdd hex h1000
          go_wp2_with fail
          refine (TQ.out _).mono ?_
          rintro e w2 ⟨rfl, hb2⟩
          simp only
          have hown2 := own_below HB.out.1 hb2
          have hb02 := bto0 HB.out.2 hb2
          by_cases hte : te = 0
          · subst hte
            have hn := Htn.out rfl
            obtain ⟨P, hP⟩ : ∃ P, str tt = P := ⟨_, rfl⟩
            have HP := Lib.hid hP
            have SKn : Hid (∀ W : World, Calls Try.prog 26 #[.string s, .int .i64 ((q : Int) + (tn : Int))] W fun e w' => e = .returned (.int .i64 ((q + tn + skipN (s.data.toList.drop (q + tn)) : Nat) : Int)) ∧ W = w') := Lib.hid fun W => SK.out (q + tn) (by omega) W
            have hnext : toksN (s.size + 1) s.data.toList 0 0 = (toksN f (s.data.toList.drop (q + tn)) (q + tn) (acc ++ [(tk, tt, q)]).length).app (acc ++ [(tk, tt, q)]) := by
              rw [HE.out, Hst.out]
              simp only [ne_eq, not_true_eq_false, if_false]
              rw [app_cons, List.drop_drop, HQ.out, List.length_append]
              rfl
            have Hnext := Lib.hid hnext
            have hown3 := hown2.alloc (.cells #[.int .u8 (tk : Int), .string P, .int .i64 (q : Int)] 29)
            have hb03 := ball hb02 (.cells #[.int .u8 (tk : Int), .string P, .int .i64 (q : Int)] 29)
            have H3 := Lib.hid (And.intro hown3 hb03)
            have nI : (tn : Int) ≤ 4096 := by omega
            have n0 : (0 : Int) ≤ (tn : Int) := by omega
            rw [hP]
            clear hP hnext hown2 hb02 hown3 hb03 hb2
            go_wp2_with (at_builtin; refine wpList_pushX (news := [.int .u8 (tk : Int), .string P, .int .i64 (q : Int)]) rfl _ _ 24 rfl w.heap.size 29 i0 _ 3 32 Try.underlying24 hi0 hz0 hs0 hy0 rfl (by decide) (.slice A5 acc.length c5) acc.length _ rfl H3.out.1 rfl _ rfl (by simp) rfl (by intro u hu; simp only [List.mem_cons, List.not_mem_nil, or_false] at hu; rcases hu with rfl | rfl | rfl <;> rfl) (by omega) (by omega) H3.out.2.size ?_; intro v6 w6 hown6 hg6; have H6 := Lib.hid (And.intro hown6 (belowX_grown H3.out.1 (Nat.le_refl _) H3.out.2.size hg6 H3.out.2)); clear hown6 hg6)
            refine (SKn.out _).mono ?_
            rintro e w7 ⟨rfl, hw7⟩
            subst hw7
            go_wp2
            go_roundw
            case rel =>
              refine ⟨q + tn, f - 1, acc ++ [(tk, tt, q)], by omega, by omega, by simp; omega, rfl, ?_, H6.out.2, ?_⟩
              · rw [vTk_app, vTk_one, List.length_append]
                unfold tkC
                simp only
                rw [HP.out]
                exact H6.out.1
              · rw [show f - 1 + 1 = f by omega]
                exact Hnext.out
            case measure => have := HQ.out; simp [intOf]; omega
          · have e2 : ((te : Int) != 0) = true := by simp; omega
            have HF2 : Hid (toksQ s.data.toList = .bad te) := Lib.hid (by rw [HF.out, HE.out, Hst.out, if_pos hte]; rfl)
            have HB2 := Lib.hid hb02
            clear hown2 hb02 hb2 hte
            go_wp2
            go_ret2
            rw [HF2.out]
            exact ⟨rfl, ball HB2.out _⟩
      · obtain rfl : q = s.size := by omega
        have hnil : (s.data.toList.drop p).drop (skipN (s.data.toList.drop p)) = [] := by
          rw [hdd]
          exact List.drop_eq_nil_of_le (by rw [szL]; exact Nat.le_refl _)
        have hst := toksN_end (f := f) (p := p) (cnt := acc.length) hnil
        have HF2 : Hid (toksQ s.data.toList = .ok (acc ++ [(0, [], s.size)])) := Lib.hid (by rw [HF.out, HE.out, hst, HQ.out]; rfl)
        obtain ⟨A5, c5, rfl, hc5⟩ := own_form HB.out.1
        clear hst hnil hdd
        go_wp2_with (at_builtin; refine wpList_pushX (news := [.int .u8 0, .string ⟨#[]⟩, .int .i64 (s.size : Int)]) rfl _ _ 24 rfl w.heap.size 29 i0 _ 3 32 Try.underlying24 hi0 hz0 hs0 hy0 rfl (by decide) (.slice A5 acc.length c5) acc.length _ rfl HB.out.1 rfl _ rfl (by simp) rfl (by intro u hu; simp only [List.mem_cons, List.not_mem_nil, or_false] at hu; rcases hu with rfl | rfl | rfl <;> rfl) (by omega) (by omega) hbs ?_; intro v6 w6 hown6 hg6; have H6 := Lib.hid (And.intro hown6 (belowX_grown HB.out.1 (Nat.le_refl _) hbs hg6 HB.out.2)); clear hown6 hg6)
        obtain ⟨A6, c6, rfl, hc6⟩ := own_form H6.out.1
        go_ret2
        rw [HF2.out]
        refine ⟨A6, c6, by rw [List.length_append]; rfl, by rw [List.length_append]; exact hc6, ?_, H6.out.2⟩
        rw [vTk_app, vTk_one, List.length_append]
        exact H6.out.1
end Go.Proofs.Ytbmfojeklhbocaa
