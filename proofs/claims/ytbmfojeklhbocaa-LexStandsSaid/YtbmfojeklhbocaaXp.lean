/-
  LexJoined: the walk.
-/
import Derived.Test.YtbmfojeklhbocaaXo
set_option linter.unusedSimpArgs false
set_option linter.unusedVariables false
namespace Go.Proofs.Ytbmfojeklhbocaa
open Go.RowKit

theorem app_data (a b : ByteArray) : (a ++ b).data.toList = a.data.toList ++ b.data.toList := by simp [ByteArray.data_append]
theorem toksN_bad : ∀ (f : Nat) (l : List UInt8) (p c k : Nat), l.length < f → toksN f l p c = .bad k → k ≠ 0
  | 0, l, p, c, k, hf, h => by omega
  | f + 1, l, p, c, k, hf, h => by
    by_cases hne : l.drop (skipN l) = []
    · rw [toksN_end hne] at h; cases h
    · rw [toksN_step hne] at h
      split at h
      · injection h with h; omega
      · split at h
        · rename_i he
          injection h with h
          rw [← h]; exact he
        · rename_i he
          have he0 : (tokN (l.drop (skipN l))).e = 0 := by simpa using he
          have hn := tokN_n _ he0
          rw [List.length_drop] at hn
          cases hr : toksN f ((l.drop (skipN l)).drop (tokN (l.drop (skipN l))).n) (p + skipN l + (tokN (l.drop (skipN l))).n) (c + 1) with
          | ok r => rw [hr] at h; cases h
          | bad k' =>
            rw [hr] at h
            injection h with h
            subst h
            exact toksN_bad f _ _ _ _ (by rw [List.length_drop, List.length_drop]; omega) hr
theorem toksQ_bad (l : List UInt8) (k : Nat) (h : toksQ l = .bad k) : k ≠ 0 := by
  unfold toksQ at h
  split at h
  · injection h with h; omega
  · exact toksN_bad _ _ _ _ _ (Nat.lt_succ_self _) h
theorem toksN_len : ∀ (f : Nat) (l : List UInt8) (p c : Nat) (r : List Tk), c ≤ 1000 → toksN f l p c = .ok r → c + r.length ≤ 1001
  | 0, l, p, c, r, hc, h => by cases h
  | f + 1, l, p, c, r, hc, h => by
    by_cases hne : l.drop (skipN l) = []
    · rw [toksN_end hne] at h
      injection h with h
      subst h
      simp; omega
    · rw [toksN_step hne] at h
      split at h
      · cases h
      · rename_i hc1
        split at h
        · cases h
        · cases hr : toksN f ((l.drop (skipN l)).drop (tokN (l.drop (skipN l))).n) (p + skipN l + (tokN (l.drop (skipN l))).n) (c + 1) with
          | bad k' => rw [hr] at h; cases h
          | ok r' =>
            rw [hr] at h
            injection h with h
            subst h
            have := toksN_len f _ _ _ _ (by omega) hr
            simp; omega
theorem toksQ_len (l : List UInt8) (r : List Tk) (h : toksQ l = .ok r) : r.length ≤ 1001 := by
  unfold toksQ at h
  split at h
  · cases h
  · have := toksN_len _ _ _ _ _ (by omega) h
    omega
theorem toksN_at : ∀ (f : Nat) (l : List UInt8) (p c : Nat) (r : List Tk), toksN f l p c = .ok r → ∀ x ∈ r, x.2.2 ≤ p + l.length
  | 0, l, p, c, r, h => by cases h
  | f + 1, l, p, c, r, h => by
    have hsk := skipN_le l
    by_cases hne : l.drop (skipN l) = []
    · rw [toksN_end hne] at h
      injection h with h
      subst h
      intro x hx
      simp at hx
      subst hx
      simp; omega
    · rw [toksN_step hne] at h
      split at h
      · cases h
      · split at h
        · cases h
        · rename_i he
          have he0 : (tokN (l.drop (skipN l))).e = 0 := by simpa using he
          have hn := tokN_n _ he0
          rw [List.length_drop] at hn
          cases hr : toksN f ((l.drop (skipN l)).drop (tokN (l.drop (skipN l))).n) (p + skipN l + (tokN (l.drop (skipN l))).n) (c + 1) with
          | bad k' => rw [hr] at h; cases h
          | ok r' =>
            rw [hr] at h
            injection h with h
            subst h
            have ih := toksN_at f _ _ _ _ hr
            intro x hx
            rcases List.mem_cons.1 hx with hx | hx
            · subst hx; simp; omega
            · have := ih x hx
              rw [List.length_drop, List.length_drop] at this
              omega
theorem toksQ_at (l : List UInt8) (r : List Tk) (h : toksQ l = .ok r) : ∀ x ∈ r, x.2.2 ≤ l.length := by
  unfold toksQ at h
  split at h
  · cases h
  · intro x hx
    have := toksN_at _ _ _ _ _ h x hx
    omega
theorem toksQ_pos (l : List UInt8) (r : List Tk) (h : toksQ l = .ok r) (hl : l.length ≤ 4096) : 1 ≤ r.length := by
  have e1 : toksQ l = toksT l 0 0 := by unfold toksQ; rw [if_neg (by omega)]; rfl
  rw [e1] at h
  obtain ⟨i, hi, _⟩ := toks_join _ l (Nat.le_refl _) 0 0 r h
  rw [hi]; simp
set_option maxRecDepth 100000 in
set_option maxHeartbeats 8000000 in
theorem lexJoined_any (a b : ByteArray) (ha : a.size ≤ maxLen) (hb : b.size ≤ maxLen) (w : World) : Calls Try.prog 6 #[.string a, .string b] w (RetB w (.bool true)) := by
  have FX := Lib.hid fun W => fixed15_any W
  unfold maxLen at ha hb
  have aI : (a.size : Int) ≤ 9223372036854775807 := by omega
  have bI : (b.size : Int) ≤ 9223372036854775807 := by omega
  by_cases ha2 : 2000 < a.size
  · have g1 : (2000 : Int) < (a.size : Int) := by omega
    go_enter Try.func6, Try.ntmps6
    go_wp2_with fail
    refine (FX.out _).mono ?_
    rintro e w2 ⟨rfl, hb2⟩
    go_wp2
    go_ret
    exact ⟨rfl, hb2⟩
  · have g1 : (a.size : Int) ≤ 2000 := by omega
    by_cases hbb : 2000 < b.size
    · have g2 : (2000 : Int) < (b.size : Int) := by omega
      go_enter Try.func6, Try.ntmps6
      go_wp2_with fail
      refine (FX.out _).mono ?_
      rintro e w2 ⟨rfl, hb2⟩
      go_wp2
      go_ret
      exact ⟨rfl, hb2⟩
    · have g2 : (b.size : Int) ≤ 2000 := by omega
      clear aI bI
      have T1 := Lib.hid fun W => tokens_any a (by omega) W
      have T2 := Lib.hid fun W => tokens_any b (by omega) W
      cases hl : toksQ a.data.toList with
      | bad k =>
        have hk : k ≠ 0 := toksQ_bad _ _ hl
        have ek : ((k : Int) != 0) = true := by simp; omega
        rw [hl] at T1
        cases hm : toksQ b.data.toList with
        | bad k2 =>
          rw [hm] at T2
          clear hl hm hk
          go_enter Try.func6, Try.ntmps6
          go_wp2_with fail
          refine (T1.out _).mono ?_
          rintro e w1 ⟨rfl, hb1⟩
          go_wp2_with fail
          refine (T2.out _).mono ?_
          rintro e w2 ⟨rfl, hb2⟩
          go_wp2_with fail
          refine (FX.out _).mono ?_
          rintro e w3 ⟨rfl, hb3⟩
          go_wp2
          go_ret
          exact ⟨rfl, by (with_reducible repeat (first | exact Below.refl _ _ | exact hb3 | exact hb2 | exact hb1 | refine bto0 ?_ hb3 | refine bto0 ?_ hb2 | refine bto0 ?_ hb1 | refine bdr ?_ _ | refine Below.drew ?_ | refine ball ?_ _))⟩
        | ok m =>
          rw [hm] at T2
          clear hl hm hk
          go_enter Try.func6, Try.ntmps6
          go_wp2_with fail
          refine (T1.out _).mono ?_
          rintro e w1 ⟨rfl, hb1⟩
          go_wp2_with fail
          refine (T2.out _).mono ?_
          rintro e w2 ⟨A2, c2, rfl, hc2, own2, hb2⟩
          go_wp2_with fail
          refine (FX.out _).mono ?_
          rintro e w3 ⟨rfl, hb3⟩
          go_wp2
          go_ret
          exact ⟨rfl, by (with_reducible repeat (first | exact Below.refl _ _ | exact hb3 | exact hb2 | exact hb1 | refine bto0 ?_ hb3 | refine bto0 ?_ hb2 | refine bto0 ?_ hb1 | refine bdr ?_ _ | refine Below.drew ?_ | refine ball ?_ _))⟩
      | ok l =>
        have hl1 := toksQ_pos _ _ hl (by rw [szL]; omega)
        have hll := toksQ_len _ _ hl
        rw [hl] at T1
        cases hm : toksQ b.data.toList with
        | bad k2 =>
          have hk : k2 ≠ 0 := toksQ_bad _ _ hm
          have ek : ((k2 : Int) != 0) = true := by simp; omega
          rw [hm] at T2
          clear hl hm hk
          go_enter Try.func6, Try.ntmps6
          go_wp2_with fail
          refine (T1.out _).mono ?_
          rintro e w1 ⟨A1, c1, rfl, hc1, own1, hb1⟩
          go_wp2_with fail
          refine (T2.out _).mono ?_
          rintro e w2 ⟨rfl, hb2⟩
          go_wp2_with fail
          refine (FX.out _).mono ?_
          rintro e w3 ⟨rfl, hb3⟩
          go_wp2
          go_ret
          exact ⟨rfl, by (with_reducible repeat (first | exact Below.refl _ _ | exact hb3 | exact hb2 | exact hb1 | refine bto0 ?_ hb3 | refine bto0 ?_ hb2 | refine bto0 ?_ hb1 | refine bdr ?_ _ | refine Below.drew ?_ | refine ball ?_ _))⟩
        | ok m =>
          have hm1 := toksQ_pos _ _ hm (by rw [szL]; omega)
          have hml := toksQ_len _ _ hm
          have hat := toksQ_at _ _ hm
          rw [szL] at hat
          have Hat := Lib.hid hat
          clear hat
          rw [hm] at T2
          have lI : (l.length : Int) ≤ 100000 := by omega
          have mI : (m.length : Int) ≤ 100000 := by omega
          have l0 : (1 : Int) ≤ (l.length : Int) := by omega
          have m0 : (1 : Int) ≤ (m.length : Int) := by omega
          have lne : ¬ l = [] := by intro e; rw [e] at hl1; simp at hl1
          have el0 : ((l.length : Int) == 0) = false := by simp [lne]
          have el1 : ¬ l.length = 0 := by omega
          by_cases hlm : 1000 < l.length + m.length
          · have elm : (1000 : Int) < (l.length : Int) + (m.length : Int) := by omega
            clear hl hm
            go_enter Try.func6, Try.ntmps6
            go_wp2_with fail
            refine (T1.out _).mono ?_
            rintro e w1 ⟨A1, c1, rfl, hc1, own1, hb1⟩
            go_wp2_with fail
            refine (T2.out _).mono ?_
            rintro e w2 ⟨A2, c2, rfl, hc2, own2, hb2⟩
            go_wp2_with fail
            refine (FX.out _).mono ?_
            rintro e w3 ⟨rfl, hb3⟩
            go_wp2
            go_ret
            exact ⟨rfl, by (with_reducible repeat (first | exact Below.refl _ _ | exact hb3 | exact hb2 | exact hb1 | refine bto0 ?_ hb3 | refine bto0 ?_ hb2 | refine bto0 ?_ hb1 | refine bdr ?_ _ | refine Below.drew ?_ | refine ball ?_ _))⟩
          · have elm : (l.length : Int) + (m.length : Int) ≤ 1000 := by omega
            obtain ⟨i, hi, hj⟩ := toks_joined _ _ (by rw [szL]; omega) (by rw [szL]; omega) l m hl hm (by omega)
            have hcat : (a ++ ⟨#[32]⟩ ++ b).data.toList = a.data.toList ++ 32 :: b.data.toList := by
              rw [app_data, app_data, List.append_assoc]; rfl
            have hsz : (a ++ ⟨#[32]⟩ ++ b).size = a.size + 1 + b.size := by
              rw [← szL, hcat, List.length_append, List.length_cons, szL, szL]; omega
            have hsz1 : (a ++ ⟨#[32]⟩).size = a.size + 1 := by
              rw [← szL, app_data, List.length_append, szL]; rfl
            have T3 := Lib.hid fun W => tokens_any (a ++ ⟨#[32]⟩ ++ b) (by omega) W
            rw [hcat, hj] at T3
            have hnl : (i ++ m.map (shT3 (a.data.toList.length + 1))).length = l.length - 1 + m.length := by
              rw [List.length_append, List.length_map, hi, List.length_append]; simp
            have hn1 : ∀ k, k < l.length - 1 → (i ++ m.map (shT3 (a.data.toList.length + 1)))[k]? = l[k]? := by
              intro k hk
              have hil : k < i.length := by rw [hi, List.length_append] at hk; simp at hk; omega
              rw [hi, List.getElem?_append_left hil, List.getElem?_append_left hil]
            have hn2 : ∀ k, l.length - 1 ≤ k → (i ++ m.map (shT3 (a.data.toList.length + 1)))[k]? = (m[k - (l.length - 1)]?).map (shT3 (a.size + 1)) := by
              intro k hk
              have hil : l.length - 1 = i.length := by rw [hi, List.length_append]; simp
              rw [hil] at hk ⊢
              rw [List.getElem?_append_right hk, List.getElem?_map, szL]
            obtain ⟨nn, hnn⟩ : ∃ nn, i ++ m.map (shT3 (a.data.toList.length + 1)) = nn := ⟨_, rfl⟩
            rw [hnn] at T3 hnl hn1 hn2
            have HN := Lib.hid (And.intro hn1 hn2)
            have nI : (nn.length : Int) = (l.length : Int) - 1 + (m.length : Int) := by omega
            have hno1 : ¬ 9223372036854775807 < a.size + 1 := by omega
            have hno2 : ¬ 9223372036854775807 < a.size + 1 + b.size := by omega
            have hno3 : ¬ 9223372036854775807 < (a ++ ⟨#[32]⟩).size + b.size := by omega
            have Hmx := Lib.hid (And.intro hl1 hm1)
            clear hl hm hi hj hcat hsz hnn hn1 hn2
            go_enter Try.func6, Try.ntmps6
            go_wp2_with fail
            refine (T1.out _).mono ?_
            rintro e w1 ⟨A1, c1, rfl, hc1, own1, hb1⟩
            go_wp2_with fail
            refine (T2.out _).mono ?_
            rintro e w2 ⟨A2, c2, rfl, hc2, own2, hb2⟩
            have own1 := own_below own1 hb2
            go_wp2_with fail
            refine (T3.out _).mono ?_
            rintro e w3 ⟨A3, c3, rfl, hc3, own3, hb3⟩
            have own1 := own_below own1 hb3
            have own2 := own_below own2 hb3
            have H3 := Lib.hid (And.intro (Reads.of_own own1) (And.intro (Reads.of_own own2) (And.intro (Reads.of_own own3) (show Below w.heap.size w w3 by (with_reducible repeat (first | exact Below.refl _ _ | exact hb3 | exact hb2 | exact hb1 | refine bto0 ?_ hb3 | refine bto0 ?_ hb2 | refine bto0 ?_ hb1 | refine bdr ?_ _ | refine Below.drew ?_ | refine ball ?_ _))))))
            clear own1 own2 own3 hb1 hb2 hb3
            go_wp2_with fail
            go_loopw [76] (fun iv wr => ∃ k : Nat, k ≤ nn.length ∧ iv = .int .i64 k ∧ Below w3.heap.size w3 wr) (fun iv _ => nn.length - (intOf iv).toNat)
            case atStart => exact ⟨0, by omega, rfl, Below.refl _ _⟩
            case round =>
              obtain ⟨k, hk, rfl, hb⟩ := hrel
              have q0 : (0 : Int) ≤ (k : Int) := by omega
              have hbw := bto0 H3.out.2.2.2 hb
              by_cases hlt : k < nn.length
              · have q1 : (k : Int) < (nn.length : Int) := by omega
                obtain ⟨ad3, x, rfl, hab3, hx, d0, d1, d2⟩ := (H3.out.2.2.1.below hb).tk hlt
                have hz3 := hb.size
                by_cases hkl : k < l.length - 1
                · have q2 : (k : Int) < (l.length : Int) - 1 := by omega
                  have q3 : (k : Int) < (l.length : Int) := by omega
                  obtain ⟨ad1, y, rfl, hab1, hy, f0, f1, f2⟩ := (H3.out.1.below hb).tk (k := k) (by omega)
                  have hxy := HN.out.1 k hkl
                  rw [hx, hy] at hxy
                  injection hxy with hxy
                  subst hxy
                  have f0' : ∀ o o2 : Obj, ((wr.alloc o).alloc o2).cell? (ad1.add (k * 3)) = some (.int .u8 (x.1 : Int)) := fun o o2 => Lib.cell?_alloc_some _ (Lib.cell?_alloc_some _ f0)
                  have f1' : ∀ o o2 : Obj, ((wr.alloc o).alloc o2).cell? ⟨(ad1.add (k * 3)).block, (ad1.add (k * 3)).off + 1, none⟩ = some (.string (str x.2.1)) := fun o o2 => Lib.cell?_alloc_some _ (Lib.cell?_alloc_some _ f1)
                  have f2' : ∀ o o2 : Obj, ((wr.alloc o).alloc o2).cell? ⟨(ad1.add (k * 3)).block, (ad1.add (k * 3)).off + 2, none⟩ = some (.int .i64 (x.2.2 : Int)) := fun o o2 => Lib.cell?_alloc_some _ (Lib.cell?_alloc_some _ f2)
                  obtain ⟨P, hP⟩ : ∃ P, str x.2.1 = P := ⟨_, rfl⟩
                  rw [hP] at d1 f1 f1'
                  clear hx hy hP
                  go_wp2
                  go_roundw
                  case rel => exact ⟨k + 1, by omega, by go_num, ball (ball hb _) _⟩
                  case measure => simp [intOf]; omega
                · obtain ⟨j, hj⟩ : ∃ j, k - (l.length - 1) = j := ⟨_, rfl⟩
                  have hjm : j < m.length := by omega
                  have q2 : ¬ (k : Int) < (l.length : Int) - 1 := by omega
                  have ej : (k : Int) - (l.length : Int) + 1 = (j : Int) := by omega
                  have j0 : (0 : Int) ≤ (j : Int) := by omega
                  have j1 : (j : Int) < (m.length : Int) := by omega
                  obtain ⟨ad2, y, rfl, hab2, hy, f0, f1, f2⟩ := (H3.out.2.1.below hb).tk hjm
                  have hxy := HN.out.2 k (by omega)
                  rw [hx, hj, hy] at hxy
                  injection hxy with hxy
                  subst hxy
                  have hyat := Hat.out y (List.mem_of_getElem? hy)
                  simp only [shT3] at d0 d1 d2
                  obtain ⟨y1, yt, ya⟩ := y
                  simp only at d0 d1 d2 f0 f1 f2 hyat
                  have yaI : (ya : Int) ≤ 2000 := by omega
                  have ya0 : (0 : Int) ≤ (ya : Int) := by omega
                  have f0' : ∀ o o2 : Obj, ((wr.alloc o).alloc o2).cell? (ad2.add (j * 3)) = some (.int .u8 (y1 : Int)) := fun o o2 => Lib.cell?_alloc_some _ (Lib.cell?_alloc_some _ f0)
                  have f1' : ∀ o o2 : Obj, ((wr.alloc o).alloc o2).cell? ⟨(ad2.add (j * 3)).block, (ad2.add (j * 3)).off + 1, none⟩ = some (.string (str yt)) := fun o o2 => Lib.cell?_alloc_some _ (Lib.cell?_alloc_some _ f1)
                  have f2' : ∀ o o2 : Obj, ((wr.alloc o).alloc o2).cell? ⟨(ad2.add (j * 3)).block, (ad2.add (j * 3)).off + 2, none⟩ = some (.int .i64 (ya : Int)) := fun o o2 => Lib.cell?_alloc_some _ (Lib.cell?_alloc_some _ f2)
                  obtain ⟨P, hP⟩ : ∃ P, str yt = P := ⟨_, rfl⟩
                  rw [hP] at d1 f1 f1'
                  have d2' : wr.cell? ⟨(ad3.add (k * 3)).block, (ad3.add (k * 3)).off + 2, none⟩ = some (.int .i64 ((ya : Int) + ((a.size : Int) + 1))) := d2
                  clear hx hy hP d2 hj
                  go_wp2
                  go_roundw
                  case rel => exact ⟨k + 1, by omega, by go_num, ball (ball hb _) _⟩
                  case measure => simp [intOf]; omega
              · obtain rfl : k = nn.length := by omega
                go_wp2_with fail
                refine (FX.out _).mono ?_
                rintro e w9 ⟨rfl, hb9⟩
                go_wp2
                go_ret
                exact ⟨rfl, bto0 hbw hb9⟩
end Go.Proofs.Ytbmfojeklhbocaa
