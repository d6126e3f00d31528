/-
  Tokens of queries: contracts of kindOf, token.
-/
import Derived.Test.YtbmfojeklhbocaaXe
import Derived.Test.YtbmfojeklhbocaaXg
set_option linter.unusedSimpArgs false
set_option linter.unusedVariables false
namespace Go.Proofs.Ytbmfojeklhbocaa
open Go.RowKit

theorem inn_lt (c : UInt8) (h : innB c = true) : c.toNat < 128 := by
  unfold innB digB alB at h
  simp only [Bool.or_eq_true, beq_iff_eq, Bool.and_eq_true, decide_eq_true_iff] at h
  rcases h with h | h | h
  · subst h; decide
  · omega
  · have h1 : c.toNat ≤ (c ||| 32).toNat := by
      have : (c ||| 32).toNat = c.toNat ||| 32 := by simp
      rw [this]; exact Nat.left_le_or
    omega
theorem run_inn : ∀ (l : List UInt8), ∀ x ∈ l.take (runN l), innB x = true
  | [], x, h => by simp at h
  | c :: l, x, h => by
    unfold runN at h
    split at h
    · rename_i hc
      rw [List.take_succ_cons] at h
      rcases List.mem_cons.1 h with h | h
      · subst h; exact hc
      · exact run_inn l x h
    · simp at h
theorem ext_list (s : ByteArray) (n : Nat) : (s.extract 0 n).data.toList = s.data.toList.take n := by
  rw [Lib.extract_data, List.drop_zero, Nat.sub_zero]
theorem ext_str (s : ByteArray) (n : Nat) : s.extract 0 n = str (s.data.toList.take n) := by
  rw [← ext_list, str_of]
theorem numV_zero : numV 0 = .tuple #[.int .u8 3, .int .i64 0] := rfl
theorem numV_pos {q : Nat} (h : q ≠ 0) : numV q = .tuple #[.int .u8 0, .int .i64 (q : Int)] := by
  cases q with
  | zero => exact absurd rfl h
  | succ q => rfl
def kindV (p : Nat × Nat) : Value := .tuple #[.int .u8 (p.1 : Int), .int .i64 (p.2 : Int)]
set_option maxHeartbeats 4000000 in
theorem kindOf_any (s : ByteArray) (h0 : 0 < s.size) (hs : s.size ≤ 1000000) (ha : ∀ i (h : i < s.size), (s[i]'h).toNat < 128) (w : World) : Calls Try.prog 38 #[.string s] w (RetB w (kindV (kindN s.data.toList))) := by
  have hsI : (s.size : Int) ≤ 1000000 := by omega
  have g0 : (0 : Int) < (s.size : Int) := by omega
  have WD := Lib.hid fun W => word_any s W
  have NM := Lib.hid fun W => name_any s hs W
  have NB := Lib.hid fun W => number_any s hs ha W
  have hd := drop_atL s 0 h0
  rw [List.drop_zero] at hd
  have hl := szL s
  clear ha
  have hK : kindN s.data.toList = if wordB s.data.toList = true then (1, 0) else if nameB s.data.toList = true then (2, 0) else if 1 < s.size ∧ s[0] = 48 then (0, 11) else match numN false 0 s.data.toList with
      | 0 => (3, 0)
      | e => (0, e) := by
    unfold kindN
    rw [hl]
    have e : (s.data.toList.head? = some 48) = (s[0] = 48) := by rw [hd]; simp
    simp only [e]
    rfl
  have HK := Lib.hid hK
  clear hd hl hK
  cases h1 : wordB s.data.toList with
  | true =>
    rw [h1] at WD
    have HF : Hid (kindN s.data.toList = (1, 0)) := Lib.hid (by rw [HK.out, if_pos h1])
    clear h1
    go_enter Try.func38, Try.ntmps38
    go_wp2_with fail
    refine (WD.out _).mono ?_
    rintro e w1 ⟨rfl, hb1⟩
    go_wp2
    go_ret2
    exact ⟨by rw [HF.out]; rfl, hb1⟩
  | false =>
    rw [h1] at WD
    have h1' : ¬ wordB s.data.toList = true := by rw [h1]; simp
    cases h2 : nameB s.data.toList with
    | true =>
      rw [h2] at NM
      have HF : Hid (kindN s.data.toList = (2, 0)) := Lib.hid (by rw [HK.out, if_neg h1', if_pos h2])
      clear h1 h2 h1'
      go_enter Try.func38, Try.ntmps38
      go_wp2_with fail
      refine (WD.out _).mono ?_
      rintro e w1 ⟨rfl, hb1⟩
      go_wp2_with fail
      refine (NM.out _).mono ?_
      rintro e w2 ⟨rfl, rfl⟩
      go_wp2
      go_ret2
      exact ⟨by rw [HF.out]; rfl, hb1⟩
    | false =>
      rw [h2] at NM
      have h2' : ¬ nameB s.data.toList = true := by rw [h2]; simp
      by_cases h3 : 1 < s.size ∧ s[0] = 48
      · have HF : Hid (kindN s.data.toList = (0, 11)) := Lib.hid (by rw [HK.out, if_neg h1', if_neg h2', if_pos h3])
        have g1 : (1 : Int) < (s.size : Int) := by omega
        have e48 : ((s[0].toNat : Int) == 48) = true := by rw [h3.2]; rfl
        clear h1 h2 h1' h2' h3
        go_enter Try.func38, Try.ntmps38
        go_wp2_with fail
        refine (WD.out _).mono ?_
        rintro e w1 ⟨rfl, hb1⟩
        go_wp2_with fail
        refine (NM.out _).mono ?_
        rintro e w2 ⟨rfl, rfl⟩
        go_wp2
        go_ret2
        exact ⟨by rw [HF.out]; rfl, hb1⟩
      · have HF : Hid (kindV (kindN s.data.toList) = numV (numN false 0 s.data.toList)) := Lib.hid (by
          rw [HK.out, if_neg h1', if_neg h2', if_neg h3]
          cases numN false 0 s.data.toList <;> rfl)
        have hno : s.size = 1 ∨ (1 < s.size ∧ ((s[0].toNat : Int) == 48) = false) := by
          rcases Nat.lt_or_ge 1 s.size with h | h
          · refine .inr ⟨h, ?_⟩
            have hn : s[0] ≠ 48 := fun e => h3 ⟨h, e⟩
            have : (s[0].toNat : Int) ≠ 48 := fun e => hn (UInt8.toNat_inj.1 (by show s[0].toNat = 48; omega))
            simpa using this
          · exact .inl (by omega)
        clear h1 h2 h1' h2' h3
        rcases hno with h | ⟨h, e48⟩
        · have g1 : (s.size : Int) ≤ 1 := by omega
          go_enter Try.func38, Try.ntmps38
          go_wp2_with fail
          refine (WD.out _).mono ?_
          rintro e w1 ⟨rfl, hb1⟩
          go_wp2_with fail
          refine (NM.out _).mono ?_
          rintro e w2 ⟨rfl, rfl⟩
          go_wp2_with fail
          refine (NB.out _).mono ?_
          rintro e w3 ⟨rfl, hb3⟩
          obtain ⟨q, hq⟩ : ∃ q, numN false 0 s.data.toList = q := ⟨_, rfl⟩
          rw [hq] at HF ⊢
          clear hq HK NB
          by_cases hq0 : q = 0
          · subst hq0
            rw [numV_zero] at HF ⊢
            go_wp2
            go_ret2
            exact ⟨by rw [HF.out]; rfl, bto0 hb1 hb3⟩
          · rw [numV_pos hq0] at HF ⊢
            go_wp2
            go_ret2
            exact ⟨by rw [HF.out]; rfl, bto0 hb1 hb3⟩
        · have g1 : (1 : Int) < (s.size : Int) := by omega
          go_enter Try.func38, Try.ntmps38
          go_wp2_with fail
          refine (WD.out _).mono ?_
          rintro e w1 ⟨rfl, hb1⟩
          go_wp2_with fail
          refine (NM.out _).mono ?_
          rintro e w2 ⟨rfl, rfl⟩
          go_wp2_with fail
          refine (NB.out _).mono ?_
          rintro e w3 ⟨rfl, hb3⟩
          obtain ⟨q, hq⟩ : ∃ q, numN false 0 s.data.toList = q := ⟨_, rfl⟩
          rw [hq] at HF ⊢
          clear hq HK NB
          by_cases hq0 : q = 0
          · subst hq0
            rw [numV_zero] at HF ⊢
            go_wp2
            go_ret2
            exact ⟨by rw [HF.out]; rfl, bto0 hb1 hb3⟩
          · rw [numV_pos hq0] at HF ⊢
            go_wp2
            go_ret2
            exact ⟨by rw [HF.out]; rfl, bto0 hb1 hb3⟩
/-- The token that comes back. -/
def RetTok (w : World) (t : TokR) (e : Ending) (w' : World) : Prop := e = .returned (.tuple #[.agg #[.int .u8 (t.k : Int), .string (str t.t), .int .i64 0], .int .i64 (t.n : Int), .int .i64 (t.e : Int)]) ∧ Below w.heap.size w w'
set_option maxRecDepth 100000 in
set_option maxHeartbeats 8000000 in
theorem token_any (s : ByteArray) (h0 : 0 < s.size) (hs : s.size ≤ 1000000) (w : World) : Calls Try.prog 27 #[.string s] w (RetTok w (tokN s.data.toList)) := by
  have hsI : (s.size : Int) ≤ 1000000 := by omega
  have g0 : (0 : Int) < (s.size : Int) := by omega
  have hd := drop_atL s 0 h0
  rw [List.drop_zero] at hd
  have RN := Lib.hid fun W => run_any s hs W
  have hle := runN_le s.data.toList
  rw [szL] at hle
  have KO : Hid (∀ W, 0 < runN s.data.toList → Calls Try.prog 38 #[.string (s.extract 0 (runN s.data.toList))] W (RetB W (kindV (kindN (s.data.toList.take (runN s.data.toList)))))) := Lib.hid fun W hpos => by
    have hsz : (s.extract 0 (runN s.data.toList)).size = runN s.data.toList := by
      rw [← szL, ext_list, List.length_take, szL]; omega
    have h := kindOf_any (s.extract 0 (runN s.data.toList)) (by rw [hsz]; exact hpos) (by rw [hsz]; omega) (by
      intro i hi
      apply inn_lt
      refine run_inn s.data.toList _ ?_
      rw [← ext_list]
      exact List.getElem_mem (by rw [szL]; exact hi)) W
    rwa [ext_list] at h
  have TX := Lib.hid fun W => text_any s h0 hs W
  have SG := Lib.hid fun W => sign_any s h0 hs W
  have hsg := sgnN_le s.data.toList
  rw [szL] at hsg
  have hT := Blk.new w 29 #[.int .u8 0, .string ⟨#[]⟩, .int .i64 0]
  have hb0 : Below w.heap.size w (w.alloc (.cells #[.int .u8 0, .string ⟨#[]⟩, .int .i64 0] 29)) := ball (Below.refl _ _) _
  have H0 := Lib.hid (And.intro hT hb0)
  clear hT hb0
  have hTK : tokN s.data.toList = if 0 < runN s.data.toList then ⟨(kindN (s.data.toList.take (runN s.data.toList))).1, s.data.toList.take (runN s.data.toList), runN s.data.toList, (kindN (s.data.toList.take (runN s.data.toList))).2⟩
      else if s[0] = 39 then (match txtN [] 1 (s.data.toList.drop 1) with
        | .bad e => ⟨0, [], 0, e⟩
        | .ok b n => ⟨4, b, n, 0⟩)
      else if 0 < sgnN s.data.toList then ⟨5, s.data.toList.take (sgnN s.data.toList), sgnN s.data.toList, 0⟩
      else ⟨0, [], 0, 11⟩ := by
    have e : (s.data.toList.head? = some 39) = (s[0] = 39) := by rw [hd]; simp
    unfold tokN
    simp only [e]
    rfl
  have HK := Lib.hid hTK
  have HX := Lib.hid (And.intro (ext_str s (runN s.data.toList)) (ext_str s (sgnN s.data.toList)))
  clear hd hTK
  obtain ⟨N, hN⟩ : ∃ N, runN s.data.toList = N := ⟨_, rfl⟩
  rw [hN] at RN KO hle HK HX
  clear hN
  have nI : (N : Int) ≤ (s.size : Int) := by omega
  by_cases hpos : 0 < N
  · have gN : (0 : Int) < (N : Int) := by omega
    have HF := HK.out
    rw [if_pos hpos] at HF
    have HFF := Lib.hid HF
    have KO' := Lib.hid fun W => KO.out W hpos
    obtain ⟨p, hp⟩ : ∃ p, kindN (s.data.toList.take N) = p := ⟨_, rfl⟩
    rw [hp] at KO' HFF
    obtain ⟨kk, ee⟩ := p
    clear HF hp TX SG KO
    go_enter Try.func27, Try.ntmps27
    go_wp2_with fail
    refine (RN.out _).mono ?_
    rintro e w1 ⟨rfl, hw1⟩
    subst hw1
    go_wp2_with fail
    refine (KO'.out _).mono ?_
    rintro e w2 ⟨rfl, hb2⟩
    have hT := H0.out.1.below hb2 H0.out.1.lt
    have hb := bto0 H0.out.2 hb2
    have FIN := Lib.hid fun a b c => tok_fin hT hb (Nat.le_refl _) a b c
    have c0 : w2.cell? ⟨w.heap.size, 0, none⟩ = some (.int .u8 0) := hT.cell 0
    have c1 : w2.cell? ⟨w.heap.size, 1, none⟩ = some (.string ⟨#[]⟩) := hT.cell 1
    have c2 : w2.cell? ⟨w.heap.size, 2, none⟩ = some (.int .i64 0) := hT.cell 2
    have f0 := hT.frozen 0
    have f1 := hT.frozen 1
    have f2 := hT.frozen 2
    have hTl := hT.lt
    clear hT hb hb2
    unfold kindV
    go_wp2
    obtain ⟨r0, r1, r2, r3⟩ := FIN.out (.int .u8 (kk : Int)) (.string (s.extract 0 N)) (.int .i64 0)
    exact bodyPost_ret (v := .tuple #[.agg #[.int .u8 (kk : Int), .string (s.extract 0 N), .int .i64 0], .int .i64 (N : Int), .int .i64 (ee : Int)]) (by simp [results, Try.results27, go_sem, r0, r1, r2]) rfl ⟨by rw [HFF.out, ← HX.out.1], r3⟩
  · have gN : N = 0 := by omega
    subst gN
    have HF := HK.out
    rw [if_neg hpos] at HF
    clear hpos KO
    by_cases h39 : s[0] = 39
    · have e39 : ((s[0].toNat : Int) == 39) = true := by rw [h39]; rfl
      rw [if_pos h39] at HF
      have HFF := Lib.hid HF
      clear HF h39 SG
      go_enter Try.func27, Try.ntmps27
      go_wp2_with fail
      refine (RN.out _).mono ?_
      rintro e w1 ⟨rfl, hw1⟩
      subst hw1
      go_wp2_with fail
      refine (TX.out _).mono ?_
      cases htx : txtN [] 1 (s.data.toList.drop 1) with
      | bad k =>
        rw [htx] at HFF
        rintro e w2 ⟨rfl, hb2⟩
        have hT := H0.out.1.below hb2 H0.out.1.lt
        have hb := bto0 H0.out.2 hb2
        have FIN := Lib.hid fun a b c => tok_fin hT hb (Nat.le_refl _) a b c
        have c0 : w2.cell? ⟨w.heap.size, 0, none⟩ = some (.int .u8 0) := hT.cell 0
        have c1 : w2.cell? ⟨w.heap.size, 1, none⟩ = some (.string ⟨#[]⟩) := hT.cell 1
        have c2 : w2.cell? ⟨w.heap.size, 2, none⟩ = some (.int .i64 0) := hT.cell 2
        have f0 := hT.frozen 0
        have f1 := hT.frozen 1
        have f2 := hT.frozen 2
        have hTl := hT.lt
        clear hT hb hb2 htx
        go_wp2
        obtain ⟨r0, r1, r2, r3⟩ := FIN.out (.int .u8 0) (.string ⟨#[]⟩) (.int .i64 0)
        exact bodyPost_ret (v := .tuple #[.agg #[.int .u8 0, .string ⟨#[]⟩, .int .i64 0], .int .i64 0, .int .i64 (k : Int)]) (by simp [results, Try.results27, go_sem, r0, r1, r2]) rfl ⟨by rw [HFF.out]; rfl, r3⟩
      | ok b n =>
        rw [htx] at HFF
        rintro e w2 ⟨rfl, hb2⟩
        have hT := H0.out.1.below hb2 H0.out.1.lt
        have hb := bto0 H0.out.2 hb2
        have FIN := Lib.hid fun a b c => tok_fin hT hb (Nat.le_refl _) a b c
        have c0 : w2.cell? ⟨w.heap.size, 0, none⟩ = some (.int .u8 0) := hT.cell 0
        have c1 : w2.cell? ⟨w.heap.size, 1, none⟩ = some (.string ⟨#[]⟩) := hT.cell 1
        have c2 : w2.cell? ⟨w.heap.size, 2, none⟩ = some (.int .i64 0) := hT.cell 2
        have f0 := hT.frozen 0
        have f1 := hT.frozen 1
        have f2 := hT.frozen 2
        have hTl := hT.lt
        obtain ⟨P, hP⟩ : ∃ P, str b = P := ⟨_, rfl⟩
        have HP := Lib.hid hP
        rw [hP]
        clear hT hb hb2 htx hP
        go_wp2
        obtain ⟨r0, r1, r2, r3⟩ := FIN.out (.int .u8 4) (.string P) (.int .i64 0)
        exact bodyPost_ret (v := .tuple #[.agg #[.int .u8 4, .string P, .int .i64 0], .int .i64 (n : Int), .int .i64 0]) (by simp [results, Try.results27, go_sem, r0, r1, r2]) rfl ⟨by rw [HFF.out, ← HP.out]; rfl, r3⟩
    · have e39 := (q39 h39).1
      rw [if_neg h39] at HF
      have HFF := Lib.hid HF
      clear HF h39 TX HK
      obtain ⟨G, hG⟩ : ∃ G, sgnN s.data.toList = G := ⟨_, rfl⟩
      rw [hG] at SG HFF HX hsg
      clear hG
      have c0 : (w.alloc (.cells #[.int .u8 0, .string ⟨#[]⟩, .int .i64 0] 29)).cell? ⟨w.heap.size, 0, none⟩ = some (.int .u8 0) := H0.out.1.cell 0
      have FIN := Lib.hid fun a b c => tok_fin H0.out.1 H0.out.2 (Nat.le_refl _) a b c
      have gI : (G : Int) ≤ (s.size : Int) := by omega
      by_cases hG0 : 0 < G
      · have g1 : (0 : Int) < (G : Int) := by omega
        have HFG := HFF.out
        rw [if_pos hG0] at HFG
        have HFH := Lib.hid HFG
        clear HFG
        go_enter Try.func27, Try.ntmps27
        go_wp2_with fail
        refine (RN.out _).mono ?_
        rintro e w1 ⟨rfl, hw1⟩
        subst hw1
        go_wp2_with fail
        refine (SG.out _).mono ?_
        rintro e w1 ⟨rfl, hw1⟩
        subst hw1
        go_wp2
        have bN := Blk.new w 29 #[.int .u8 5, .string (s.extract 0 G), .int .i64 0]
        have r0 : (w.alloc (.cells #[.int .u8 5, .string (s.extract 0 G), .int .i64 0] 29)).cell? ⟨w.heap.size, 0, none⟩ = some (.int .u8 5) := bN.cell 0
        have r1 : (w.alloc (.cells #[.int .u8 5, .string (s.extract 0 G), .int .i64 0] 29)).cell? ⟨w.heap.size, 1, none⟩ = some (.string (s.extract 0 G)) := bN.cell 1
        have r2 : (w.alloc (.cells #[.int .u8 5, .string (s.extract 0 G), .int .i64 0] 29)).cell? ⟨w.heap.size, 2, none⟩ = some (.int .i64 0) := bN.cell 2
        exact bodyPost_ret (v := .tuple #[.agg #[.int .u8 5, .string (s.extract 0 G), .int .i64 0], .int .i64 (G : Int), .int .i64 0]) (by simp [results, Try.results27, go_sem, r0, r1, r2]) rfl ⟨by rw [HFH.out, HX.out.2]; rfl, ball (Below.refl _ _) _⟩
      · have g1 : G = 0 := by omega
        subst g1
        have HFG := HFF.out
        rw [if_neg hG0] at HFG
        have HFH := Lib.hid HFG
        clear HFG
        go_enter Try.func27, Try.ntmps27
        go_wp2_with fail
        refine (RN.out _).mono ?_
        rintro e w1 ⟨rfl, hw1⟩
        subst hw1
        go_wp2_with fail
        refine (SG.out _).mono ?_
        rintro e w1 ⟨rfl, hw1⟩
        subst hw1
        go_wp2
        have bN := Blk.new w 29 #[.int .u8 0, .string ⟨#[]⟩, .int .i64 0]
        have r0 : (w.alloc (.cells #[.int .u8 0, .string ⟨#[]⟩, .int .i64 0] 29)).cell? ⟨w.heap.size, 0, none⟩ = some (.int .u8 0) := bN.cell 0
        have r1 : (w.alloc (.cells #[.int .u8 0, .string ⟨#[]⟩, .int .i64 0] 29)).cell? ⟨w.heap.size, 1, none⟩ = some (.string ⟨#[]⟩) := bN.cell 1
        have r2 : (w.alloc (.cells #[.int .u8 0, .string ⟨#[]⟩, .int .i64 0] 29)).cell? ⟨w.heap.size, 2, none⟩ = some (.int .i64 0) := bN.cell 2
        exact bodyPost_ret (v := .tuple #[.agg #[.int .u8 0, .string ⟨#[]⟩, .int .i64 0], .int .i64 0, .int .i64 11]) (by simp [results, Try.results27, go_sem, r0, r1, r2]) rfl ⟨by rw [HFH.out]; rfl, ball (Below.refl _ _) _⟩
end Go.Proofs.Ytbmfojeklhbocaa
