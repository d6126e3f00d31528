/-
  Several texts in one: Id.
-/
import Derived.Test.YtflolnilagogpaaMge
/-
  The reference's table: may one be?
-/
namespace Go.Proofs.Ytflolnilagogpaa
section
set_option linter.unusedSimpArgs false
set_option linter.unusedVariables false
open Go.RowKit

@[reducible] def Tb.agg (t : Tb) : Value := .agg #[.string t.nm, .slice t.A t.n t.c, .int .u32 t.f, .int .i64 t.r, .int .i64 t.p]
theorem pc_at {l : List Cl} {k : Nat} {c : PC} (h : (l.map Cl.pc)[k]? = some c) : ∃ q, l[k]? = some q ∧ c = q.pc := by
  rw [List.getElem?_map] at h
  cases hq : l[k]? with
  | none => rw [hq] at h; cases h
  | some q => rw [hq] at h; exact ⟨q, rfl, (Option.some.inj h).symm⟩
set_option maxRecDepth 100000 in
set_option maxHeartbeats 4000000 in
theorem rtable_any (t : Tb) (w : World) (ht : TbOk w w.heap.size t) : Calls Try.prog 23 #[t.agg] w (RetM w (MayT t.pt)) := by
  obtain ⟨⟨hz0, hz1, hcr, hcs⟩, hf0, hf1⟩ := ht
  have hln : t.cols.length = t.n := by have := hcr.1; rw [vC_len] at this; omega
  obtain ⟨nm, A, n, c, f, rr, p, cols⟩ := t
  simp only at hcr hcs hln hf0 hf1 hz0 hz1
  have hlp : (cols.map Cl.pc).length = n := by rw [List.length_map]; exact hln
  unfold maxLen at hz1
  have nI : (n : Int) ≤ 9223372036854775807 := by omega
  have HZ := Lib.hid hz0
  have HC := Lib.hid (And.intro hcr (And.intro hcs (And.intro hln hlp)))
  clear hz0 hz1 hcr hcs hln hlp
  by_cases cN : nameB nm.data.toList = true
  · skip
    by_cases c1 : 1 ≤ n
    · skip
      have c1I : (1 : Int) ≤ (n : Int) := by omega
      by_cases c8 : n ≤ 8
      · skip
        have c8I : (n : Int) ≤ 8 := by omega
        by_cases cf : num31 f = true
        · skip
          by_cases cr : num31 rr = true
          · skip
            by_cases cp : num31 p = true
            · skip
              have NM : Hid (∀ W : World, Calls Try.prog 10 #[.string nm] W fun e w' => e = .returned (.bool true) ∧ W = w') := Lib.hid fun W => by have h := rname_any nm HZ.out W; rwa [cN] at h
              have NF : Hid (∀ W : World, Calls Try.prog 45 #[.int .i64 f] W fun e w' => e = .returned (.bool true) ∧ W = w') := Lib.hid fun W => by have h := number_any f W; rwa [cf] at h
              have NR : Hid (∀ W : World, Calls Try.prog 45 #[.int .i64 rr] W fun e w' => e = .returned (.bool true) ∧ W = w') := Lib.hid fun W => by have h := number_any rr W; rwa [cr] at h
              have NP : Hid (∀ W : World, Calls Try.prog 45 #[.int .i64 p] W fun e w' => e = .returned (.bool true) ∧ W = w') := Lib.hid fun W => by have h := number_any p W; rwa [cp] at h
              have MT := Lib.hid (fun (g : Good OkC PC.nm (cols.map Cl.pc) n) => (show MayT ⟨nm.data.toList, cols.map Cl.pc, f, rr, p⟩ from ⟨cN, by rw [HC.out.2.2.2]; exact c1, by rw [HC.out.2.2.2]; exact c8, cf, cr, cp, by rw [HC.out.2.2.2]; exact g⟩))
              have MN := Lib.hid (fun (h : MayT ⟨nm.data.toList, cols.map Cl.pc, f, rr, p⟩) (k : Nat) (hk : k < n) => h.2.2.2.2.2.2 k (by rw [HC.out.2.2.2]; exact hk))
              clear cN cf cr cp c1 c8
              go_enter Try.func23, Try.ntmps23
              go_wp2_with (first
                              | (go_at_call 10; (with_reducible refine (NM.out _).mono ?_); rintro e w' ⟨rfl, rfl⟩)
                              | (go_at_call 45; (with_reducible refine (NF.out _).mono ?_); rintro e w' ⟨rfl, rfl⟩)
                              | (go_at_call 45; (with_reducible refine (NR.out _).mono ?_); rintro e w' ⟨rfl, rfl⟩)
                              | (go_at_call 45; (with_reducible refine (NP.out _).mono ?_); rintro e w' ⟨rfl, rfl⟩))
              clear NM NF NR NP
              go_loopw [44] (fun v wr => ∃ i : Nat, i ≤ n ∧ v = .int .i64 i ∧ Below w.heap.size w wr ∧ Blk wr w.heap.size 44 #[.string nm, .slice A n c, .int .u32 f, .int .i64 rr, .int .i64 p] ∧ Good OkC PC.nm (cols.map Cl.pc) i) (fun v _ => n - (intOf v).toNat)
              case atStart => exact ⟨0, by omega, rfl, ball (Below.refl _ _) _, Blk.new _ _ _, Good.zero⟩
              case round =>
                obtain ⟨wo, rfl⟩ : ∃ wo : World, wo = wr := ⟨_, rfl⟩
                obtain ⟨i, hi, rfl, hb, hbk, hg⟩ := hrel
                have q0 : (0 : Int) ≤ (i : Int) := by omega
                have b0 : wo.cell? ⟨w.heap.size, 0, none⟩ = some (.string nm) := hbk.cell 0
                have b1 : wo.cell? ⟨w.heap.size, 1, none⟩ = some (.slice A n c) := hbk.cell 1
                have blt := hbk.lt
                by_cases hlt : i < n
                · have q1 : (i : Int) < (n : Int) := by omega
                  obtain ⟨ad, q, rfl, hab, hq, d0, d1, d2, d3⟩ := (HC.out.1.below hb).cl_ hlt
                  have hqok := HC.out.2.1 q (List.mem_of_getElem? hq)
                  have hpq : (cols.map Cl.pc)[i]? = some q.pc := by rw [List.getElem?_map, hq]; rfl
                  obtain ⟨qn, qk, qd, qu⟩ := q
                  have hadlt : (ad.add (i * 4)).block < wo.heap.size := by rw [block_of_add]; have := hb.size; omega
                  have HQ := Lib.hid (And.intro hqok (And.intro hpq (And.intro hb (And.intro hbk hg))))
                  have k0 : (0 : Int) ≤ qk := hqok.2.1
                  have HQN : Hid (qn.size ≤ maxLen) := Lib.hid hqok.1
                  clear hqok hpq hq hb hbk hg
                  by_cases eN : nameB qn.data.toList = true
                  · skip
                    by_cases e1 : 1 ≤ qk
                    · skip
                      by_cases e3 : qk ≤ 3
                      · skip
                        by_cases ed : num31 qd = true
                        · skip
                          by_cases eu : num31 qu = true
                          · skip
                            have CN : Hid (∀ W : World, Calls Try.prog 10 #[.string qn] W fun e w' => e = .returned (.bool true) ∧ W = w') := Lib.hid fun W => by have h := rname_any qn HQN.out W; rwa [eN] at h
                            have CD : Hid (∀ W : World, Calls Try.prog 45 #[.int .i64 qd] W fun e w' => e = .returned (.bool true) ∧ W = w') := Lib.hid fun W => by have h := number_any qd W; rwa [ed] at h
                            have CU : Hid (∀ W : World, Calls Try.prog 45 #[.int .i64 qu] W fun e w' => e = .returned (.bool true) ∧ W = w') := Lib.hid fun W => by have h := number_any qu W; rwa [eu] at h
                            have eb : (qk == 0) = false := by simp; omega
                            have OKC := Lib.hid (show OkC ⟨qn.data.toList, qk, qd, qu⟩ from ⟨eN, ⟨e1, e3⟩, ed, eu⟩)
                            clear eN ed eu
                            go_wp2_with (first
                                                          | (go_at_call 10; (with_reducible refine (CN.out _).mono ?_); rintro e w' ⟨rfl, rfl⟩)
                                                          | (go_at_call 45; (with_reducible refine (CD.out _).mono ?_); rintro e w' ⟨rfl, rfl⟩)
                                                          | (go_at_call 45; (with_reducible refine (CU.out _).mono ?_); rintro e w' ⟨rfl, rfl⟩))
                            go_loopw [5] (fun v wr => ∃ k : Nat, k ≤ i ∧ v = .int .i64 k ∧ Below w.heap.size w wr ∧ Blk wr w.heap.size 44 #[.string nm, .slice (some ad) n c, .int .u32 f, .int .i64 rr, .int .i64 p] ∧ Blk wr wo.heap.size 46 #[.string qn, .int .u8 qk, .int .i64 qd, .int .i64 qu] ∧ ∀ j, j < k → ∀ c', (cols.map Cl.pc)[j]? = some c' → c'.nm ≠ qn.data.toList) (fun v _ => i - (intOf v).toNat)
                            case atStart => exact ⟨0, by omega, rfl, ball HQ.out.2.2.1 _, HQ.out.2.2.2.1.alloc _, Blk.new _ _ _, fun j hj => by omega⟩
                            case round =>
                              obtain ⟨k, hk, rfl, hb, hbk, hbq, hdf⟩ := hrel
                              have r0 : (0 : Int) ≤ (k : Int) := by omega
                              by_cases hki : k < i
                              · have r1 : (k : Int) < (i : Int) := by omega
                                have r2 : (k : Int) < (n : Int) := by omega
                                obtain ⟨ad2, q2, hA2, hab2, hq2, f0, f1, f2, f3⟩ := (HC.out.1.below hb).cl_ (show k < n by omega)
                                cases hA2
                                have hpq2 : (cols.map Cl.pc)[k]? = some q2.pc := by rw [List.getElem?_map, hq2]; rfl
                                have g1 : wr.cell? ⟨w.heap.size, 1, none⟩ = some (.slice (some ad) n c) := hbk.cell 1
                                have g2 : wr.cell? ⟨wo.heap.size, 0, none⟩ = some (.string qn) := hbq.cell 0
                                have HK := Lib.hid (And.intro hpq2 (And.intro hb (And.intro hbk (And.intro hbq hdf))))
                                clear hpq2 hb hbk hbq hdf hq2 f1 f2 f3 b0 b1
                                rcases nm_cases2 q2.nm qn with ⟨h1, h2⟩ | ⟨h1, h2⟩
                                · have HN := Lib.hid h1
                                  clear h1
                                  go_wp2
                                  go_quiet (fail)
                                  go_wp2
                                  go_ret
                                  exact ⟨false, rfl, ⟨fun h => (by cases h), fun h => absurd HN.out ((MN.out h i hlt _ HQ.out.2.1).2 k hki _ HK.out.1)⟩, bdr HK.out.2.1 _⟩
                                · have HN := Lib.hid h1
                                  clear h1
                                  go_wp2
                                  go_quiet (fail)
                                  go_wp2
                                  exact ⟨⟨k + 1, by omega, by go_num, bdr HK.out.2.1 _, HK.out.2.2.1.drewN _, HK.out.2.2.2.1.drewN _, fun j hj c' hc' => by
                                    by_cases hjk : j < k
                                    · exact HK.out.2.2.2.2 j hjk c' hc'
                                    · obtain rfl : j = k := by omega
                                      rw [HK.out.1] at hc'
                                      cases hc'
                                      exact HN.out⟩, by simp [intOf]; omega⟩
                              · obtain rfl : k = i := by omega
                                have HG := Lib.hid (HQ.out.2.2.2.2.succ HQ.out.2.1 OKC.out hdf)
                                clear hdf
                                go_wp2
                                exact ⟨⟨k + 1, by omega, by go_num, hb, hbk, HG.out⟩, by simp [intOf]; omega⟩
                          · skip
                            have CN : Hid (∀ W : World, Calls Try.prog 10 #[.string qn] W fun e w' => e = .returned (.bool true) ∧ W = w') := Lib.hid fun W => by have h := rname_any qn HQN.out W; rwa [eN] at h
                            have CD : Hid (∀ W : World, Calls Try.prog 45 #[.int .i64 qd] W fun e w' => e = .returned (.bool true) ∧ W = w') := Lib.hid fun W => by have h := number_any qd W; rwa [ed] at h
                            have CU : Hid (∀ W : World, Calls Try.prog 45 #[.int .i64 qu] W fun e w' => e = .returned (.bool false) ∧ W = w') := Lib.hid fun W => by have h := number_any qu W; rwa [(by simpa using eu : num31 qu = false)] at h
                            have eb : (qk == 0) = false := by simp; omega
                            have HX := Lib.hid (fun (h : OkC ⟨qn.data.toList, qk, qd, qu⟩) => eu h.2.2.2)
                            clear eN ed eu
                            go_wp2_with (first
                                                          | (go_at_call 10; (with_reducible refine (CN.out _).mono ?_); rintro e w' ⟨rfl, rfl⟩)
                                                          | (go_at_call 45; (with_reducible refine (CD.out _).mono ?_); rintro e w' ⟨rfl, rfl⟩)
                                                          | (go_at_call 45; (with_reducible refine (CU.out _).mono ?_); rintro e w' ⟨rfl, rfl⟩))
                            go_ret
                            exact ⟨false, rfl, ⟨fun h => (by cases h), fun h => (HX.out (MN.out h i hlt _ HQ.out.2.1).1).elim⟩, ball HQ.out.2.2.1 _⟩
                        · skip
                          have CN : Hid (∀ W : World, Calls Try.prog 10 #[.string qn] W fun e w' => e = .returned (.bool true) ∧ W = w') := Lib.hid fun W => by have h := rname_any qn HQN.out W; rwa [eN] at h
                          have CD : Hid (∀ W : World, Calls Try.prog 45 #[.int .i64 qd] W fun e w' => e = .returned (.bool false) ∧ W = w') := Lib.hid fun W => by have h := number_any qd W; rwa [(by simpa using ed : num31 qd = false)] at h
                          have eb : (qk == 0) = false := by simp; omega
                          have HX := Lib.hid (fun (h : OkC ⟨qn.data.toList, qk, qd, qu⟩) => ed h.2.2.1)
                          clear eN ed
                          go_wp2_with (first
                                                      | (go_at_call 10; (with_reducible refine (CN.out _).mono ?_); rintro e w' ⟨rfl, rfl⟩)
                                                      | (go_at_call 45; (with_reducible refine (CD.out _).mono ?_); rintro e w' ⟨rfl, rfl⟩))
                          go_ret
                          exact ⟨false, rfl, ⟨fun h => (by cases h), fun h => (HX.out (MN.out h i hlt _ HQ.out.2.1).1).elim⟩, ball HQ.out.2.2.1 _⟩
                      · skip
                        have CN : Hid (∀ W : World, Calls Try.prog 10 #[.string qn] W fun e w' => e = .returned (.bool true) ∧ W = w') := Lib.hid fun W => by have h := rname_any qn HQN.out W; rwa [eN] at h
                        have eb : (qk == 0) = false := by simp; omega
                        have e4 : (3 : Int) < qk := by omega
                        have HX := Lib.hid (fun (h : OkC ⟨qn.data.toList, qk, qd, qu⟩) => e3 h.2.1.2)
                        clear eN e3
                        go_wp2_with (first
                                                  | (go_at_call 10; (with_reducible refine (CN.out _).mono ?_); rintro e w' ⟨rfl, rfl⟩))
                        go_ret
                        exact ⟨false, rfl, ⟨fun h => (by cases h), fun h => (HX.out (MN.out h i hlt _ HQ.out.2.1).1).elim⟩, ball HQ.out.2.2.1 _⟩
                    · skip
                      have CN : Hid (∀ W : World, Calls Try.prog 10 #[.string qn] W fun e w' => e = .returned (.bool true) ∧ W = w') := Lib.hid fun W => by have h := rname_any qn HQN.out W; rwa [eN] at h
                      obtain rfl : qk = 0 := by omega
                      have HX := Lib.hid (fun (h : OkC ⟨qn.data.toList, 0, qd, qu⟩) => e1 h.2.1.1)
                      clear eN e1
                      go_wp2_with (first
                                              | (go_at_call 10; (with_reducible refine (CN.out _).mono ?_); rintro e w' ⟨rfl, rfl⟩))
                      go_ret
                      exact ⟨false, rfl, ⟨fun h => (by cases h), fun h => (HX.out (MN.out h i hlt _ HQ.out.2.1).1).elim⟩, ball HQ.out.2.2.1 _⟩
                  · skip
                    have CN : Hid (∀ W : World, Calls Try.prog 10 #[.string qn] W fun e w' => e = .returned (.bool false) ∧ W = w') := Lib.hid fun W => by have h := rname_any qn HQN.out W; rwa [(by simpa using eN : nameB qn.data.toList = false)] at h
                    have HX := Lib.hid (fun (h : OkC ⟨qn.data.toList, qk, qd, qu⟩) => eN h.1)
                    clear eN
                    go_wp2_with (first
                                          | (go_at_call 10; (with_reducible refine (CN.out _).mono ?_); rintro e w' ⟨rfl, rfl⟩))
                    go_ret
                    exact ⟨false, rfl, ⟨fun h => (by cases h), fun h => (HX.out (MN.out h i hlt _ HQ.out.2.1).1).elim⟩, ball HQ.out.2.2.1 _⟩
                · obtain rfl : i = n := by omega
                  have HG := Lib.hid (MT.out hg)
                  clear hg
                  go_wp2
                  go_ret
                  exact ⟨true, rfl, ⟨fun _ => HG.out, fun _ => rfl⟩, hb⟩
            · skip
              have NM : Hid (∀ W : World, Calls Try.prog 10 #[.string nm] W fun e w' => e = .returned (.bool true) ∧ W = w') := Lib.hid fun W => by have h := rname_any nm HZ.out W; rwa [cN] at h
              have NF : Hid (∀ W : World, Calls Try.prog 45 #[.int .i64 f] W fun e w' => e = .returned (.bool true) ∧ W = w') := Lib.hid fun W => by have h := number_any f W; rwa [cf] at h
              have NR : Hid (∀ W : World, Calls Try.prog 45 #[.int .i64 rr] W fun e w' => e = .returned (.bool true) ∧ W = w') := Lib.hid fun W => by have h := number_any rr W; rwa [cr] at h
              have NP : Hid (∀ W : World, Calls Try.prog 45 #[.int .i64 p] W fun e w' => e = .returned (.bool false) ∧ W = w') := Lib.hid fun W => by have h := number_any p W; rwa [(by simpa using cp : num31 p = false)] at h
              have HX := Lib.hid (fun (h : MayT ⟨nm.data.toList, cols.map Cl.pc, f, rr, p⟩) => cp h.2.2.2.2.2.1)
              clear cN cf cr cp
              go_enter Try.func23, Try.ntmps23
              go_wp2_with (first
                              | (go_at_call 10; (with_reducible refine (NM.out _).mono ?_); rintro e w' ⟨rfl, rfl⟩)
                              | (go_at_call 45; (with_reducible refine (NF.out _).mono ?_); rintro e w' ⟨rfl, rfl⟩)
                              | (go_at_call 45; (with_reducible refine (NR.out _).mono ?_); rintro e w' ⟨rfl, rfl⟩)
                              | (go_at_call 45; (with_reducible refine (NP.out _).mono ?_); rintro e w' ⟨rfl, rfl⟩))
              go_ret
              exact ⟨false, rfl, ⟨fun h => (by cases h), fun h => (HX.out h).elim⟩, ball (Below.refl _ _) _⟩
          · skip
            have NM : Hid (∀ W : World, Calls Try.prog 10 #[.string nm] W fun e w' => e = .returned (.bool true) ∧ W = w') := Lib.hid fun W => by have h := rname_any nm HZ.out W; rwa [cN] at h
            have NF : Hid (∀ W : World, Calls Try.prog 45 #[.int .i64 f] W fun e w' => e = .returned (.bool true) ∧ W = w') := Lib.hid fun W => by have h := number_any f W; rwa [cf] at h
            have NR : Hid (∀ W : World, Calls Try.prog 45 #[.int .i64 rr] W fun e w' => e = .returned (.bool false) ∧ W = w') := Lib.hid fun W => by have h := number_any rr W; rwa [(by simpa using cr : num31 rr = false)] at h
            have HX := Lib.hid (fun (h : MayT ⟨nm.data.toList, cols.map Cl.pc, f, rr, p⟩) => cr h.2.2.2.2.1)
            clear cN cf cr
            go_enter Try.func23, Try.ntmps23
            go_wp2_with (first
                          | (go_at_call 10; (with_reducible refine (NM.out _).mono ?_); rintro e w' ⟨rfl, rfl⟩)
                          | (go_at_call 45; (with_reducible refine (NF.out _).mono ?_); rintro e w' ⟨rfl, rfl⟩)
                          | (go_at_call 45; (with_reducible refine (NR.out _).mono ?_); rintro e w' ⟨rfl, rfl⟩))
            go_ret
            exact ⟨false, rfl, ⟨fun h => (by cases h), fun h => (HX.out h).elim⟩, ball (Below.refl _ _) _⟩
        · skip
          have NM : Hid (∀ W : World, Calls Try.prog 10 #[.string nm] W fun e w' => e = .returned (.bool true) ∧ W = w') := Lib.hid fun W => by have h := rname_any nm HZ.out W; rwa [cN] at h
          have NF : Hid (∀ W : World, Calls Try.prog 45 #[.int .i64 f] W fun e w' => e = .returned (.bool false) ∧ W = w') := Lib.hid fun W => by have h := number_any f W; rwa [(by simpa using cf : num31 f = false)] at h
          have HX := Lib.hid (fun (h : MayT ⟨nm.data.toList, cols.map Cl.pc, f, rr, p⟩) => cf h.2.2.2.1)
          clear cN cf
          go_enter Try.func23, Try.ntmps23
          go_wp2_with (first
                      | (go_at_call 10; (with_reducible refine (NM.out _).mono ?_); rintro e w' ⟨rfl, rfl⟩)
                      | (go_at_call 45; (with_reducible refine (NF.out _).mono ?_); rintro e w' ⟨rfl, rfl⟩))
          go_ret
          exact ⟨false, rfl, ⟨fun h => (by cases h), fun h => (HX.out h).elim⟩, ball (Below.refl _ _) _⟩
      · skip
        have NM : Hid (∀ W : World, Calls Try.prog 10 #[.string nm] W fun e w' => e = .returned (.bool true) ∧ W = w') := Lib.hid fun W => by have h := rname_any nm HZ.out W; rwa [cN] at h
        have c9 : (8 : Int) < (n : Int) := by omega
        have HX := Lib.hid (fun (h : MayT ⟨nm.data.toList, cols.map Cl.pc, f, rr, p⟩) => c8 (HC.out.2.2.2 ▸ h.2.2.1))
        clear cN c8
        go_enter Try.func23, Try.ntmps23
        go_wp2_with (first
                  | (go_at_call 10; (with_reducible refine (NM.out _).mono ?_); rintro e w' ⟨rfl, rfl⟩))
        go_ret
        exact ⟨false, rfl, ⟨fun h => (by cases h), fun h => (HX.out h).elim⟩, ball (Below.refl _ _) _⟩
    · skip
      have NM : Hid (∀ W : World, Calls Try.prog 10 #[.string nm] W fun e w' => e = .returned (.bool true) ∧ W = w') := Lib.hid fun W => by have h := rname_any nm HZ.out W; rwa [cN] at h
      obtain rfl : n = 0 := by omega
      have HX := Lib.hid (fun (h : MayT ⟨nm.data.toList, cols.map Cl.pc, f, rr, p⟩) => c1 (HC.out.2.2.2 ▸ h.2.1))
      clear cN c1
      go_enter Try.func23, Try.ntmps23
      go_wp2_with (first
              | (go_at_call 10; (with_reducible refine (NM.out _).mono ?_); rintro e w' ⟨rfl, rfl⟩))
      go_ret
      exact ⟨false, rfl, ⟨fun h => (by cases h), fun h => (HX.out h).elim⟩, ball (Below.refl _ _) _⟩
  · skip
    have NM : Hid (∀ W : World, Calls Try.prog 10 #[.string nm] W fun e w' => e = .returned (.bool false) ∧ W = w') := Lib.hid fun W => by have h := rname_any nm HZ.out W; rwa [(by simpa using cN : nameB nm.data.toList = false)] at h
    have HX := Lib.hid (fun (h : MayT ⟨nm.data.toList, cols.map Cl.pc, f, rr, p⟩) => cN h.1)
    clear cN
    go_enter Try.func23, Try.ntmps23
    go_wp2_with (first
          | (go_at_call 10; (with_reducible refine (NM.out _).mono ?_); rintro e w' ⟨rfl, rfl⟩))
    go_ret
    exact ⟨false, rfl, ⟨fun h => (by cases h), fun h => (HX.out h).elim⟩, ball (Below.refl _ _) _⟩
end
end Go.Proofs.Ytflolnilagogpaa
