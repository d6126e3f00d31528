/-
  Several texts in one: Ip.
-/
import Derived.Test.YtflolnilagogpaaMgj
import Derived.Test.YtflolnilagogpaaMgd
/-
  Names that are gathered; the program's mayTable.
-/
namespace Go.Proofs.Ytflolnilagogpaa
section
set_option linter.unusedSimpArgs false
set_option linter.unusedVariables false
open Go.RowKit

theorem ball0 {B base : Nat} {w0 w : World} (h : Below B w0 w) (hB : B ≤ base) (hbase : base ≤ w.heap.size) {o : Obj} : Below B w0 (w.alloc o) := h.alloc (by omega) o
theorem Try.infoS : (Try.prog.info? 9).map (fun i => (i.zero, i.size, i.bytes)) = some (some (.string ⟨#[]⟩), 1, 16) := by kernel_rfl
def OwnS (w : World) (base : Nat) (v : Value) (l : List ByteArray) : Prop := w.ownsRow base 9 1 v l.length (vS l)
structure KeepS (base : Nat) (w w' : World) : Prop where
  below : ∀ B w0, B ≤ base → Below B w0 w → Below B w0 w'
  blk : ∀ g t cs, t ≠ 9 → Blk w g t cs → Blk w' g t cs
  size : w.heap.size ≤ w'.heap.size
theorem OwnS.nil (w : World) (base : Nat) : OwnS w base (.slice none 0 0) [] := ⟨rfl, .inl ⟨rfl, rfl⟩⟩
theorem OwnS.alloc {w : World} {base : Nat} {v : Value} {l : List ByteArray} (h : OwnS w base v l) (o : Obj) : OwnS (w.alloc o) base v l := World.ownsRow.alloc h o
theorem OwnS.below {w w' : World} {base : Nat} {v : Value} {l : List ByteArray} (h : OwnS w base v l) (hb : Below w.heap.size w w') : OwnS w' base v l :=
  World.ownsRow.kept h (row := none) ⟨hb.os, hb.tape, hb.output, hb.size, fun i hi _ => hb.block i hi⟩ (by cases h' : v.ownBlock <;> simp)
theorem OwnS.form {w : World} {base : Nat} {v : Value} {l : List ByteArray} (h : OwnS w base v l) : ∃ A c, v = .slice A l.length c ∧ l.length ≤ c := own_form h
theorem OwnS.reads {w : World} {base : Nat} {A : Option Addr} {n c : Nat} {l : List ByteArray} (h : OwnS w base (.slice A n c) l) : Reads w w.heap.size 1 A n (vS l) ∧ n = l.length := by
  obtain ⟨A', c', e, _⟩ := h.form
  injection e with e1 e2 e3
  subst e1; subst e2; subst e3
  exact ⟨Reads.of_own h, rfl⟩
section
variable {ops : Array Oper} {rest : List Oper} {o : Oper} {a : Act} {Q : Exit → Act → World → Prop} {w : World}
/-- append(names, name). -/
theorem wpList_pushN (hgd : o.guard = none) (s x : Operand) (ho : o.op = .call { callee := .builtin .append, args := #[s, x], argTypes := #[53, 53] })
    (base : Nat) (v : Value) (l : List ByteArray) (b : ByteArray) (hs : a.eval s = v) (hown : OwnS w base v l)
    (g : Nat) (hx : a.eval x = .slice (some ⟨g, 0, none⟩) 1 1) (hg : g = w.heap.size) (h63 : l.length + 1 ≤ 1000000000) (hbase : base ≤ w.heap.size)
    (h : ∀ v' w', OwnS w' base v' (l ++ [b]) → KeepS base w w' → wpList Try.prog ops Q rest (a.put o.dst v') w') : wpList Try.prog ops Q (o :: rest) a (w.alloc (.cells #[.string b] 9)) := by
  subst hg
  obtain ⟨i0, hi0, hz0, hs0, hy0⟩ := int_info8 Try.infoS
  have hr : Reads (w.alloc (.cells #[.string b] 9)) (w.heap.size + 1) 1 (some ⟨w.heap.size, 0, none⟩) 1 [.string b] := reads_new w _ _ rfl rfl
  refine wpList_append_any _ hgd s x 53 ho base 9 i0 (.string ⟨#[]⟩) 1 16 Try.underlying53 hi0 hz0 hs0 hy0 rfl (by decide) v l.length (vS l) hs (hown.alloc _) _ _ 1 1 [.string b] hx hr (by intro y hy; rw [List.mem_singleton] at hy; subst hy; rfl) (by unfold maxLen; omega) (by omega) (by simp; omega) ?_
  intro v' w' hown' hk _
  refine h v' w' ?_ ⟨fun B w0 hB hb => bgrow (ball0 hb hB hbase) hk (hown.alloc _) hB (by simp; omega), fun g t cs ht hb => (hb.alloc (.cells #[.string b] 9)).grown hk (fun e => own_blk_ne (hown.alloc (.cells #[.string b] 9)) (hb.alloc (.cells #[.string b] 9)) (fun e' => ht e'.symm) e.symm), Nat.le_trans (by simp) hk.size⟩
  unfold OwnS
  have e1 : (l ++ [b]).length = l.length + 1 := by simp
  have e2 : vS (l ++ [b]) = vS l ++ [.string b] := by simp [vS]
  rw [e1, e2]
  exact hown'
end
theorem name2_any (s : ByteArray) (hs : s.size ≤ maxLen) (w : World) : Calls Try.prog 9 #[.string s] w fun e w' => e = .returned (.bool (nameB s.data.toList)) ∧ w = w' := by
  by_cases h : s.size ≤ 1000000
  · exact name_any s h w
  · have hN : Hid (nameB s.data.toList = false) := Lib.hid (nameB_long _ (by rw [szL]; omega))
    have g24 : (24 : Int) < (s.size : Int) := by omega
    have g1 : (1 : Int) ≤ (s.size : Int) := by omega
    unfold maxLen at hs
    have hsI : (s.size : Int) ≤ 9223372036854775807 := by omega
    clear h hs
    go_enter Try.func9, Try.ntmps9
    go_wp2
    go_ret
    exact ⟨by rw [hN.out]; rfl, rfl⟩
theorem all2_any (d u : Int) (W : World) (g : Nat) (hg : g = W.heap.size) : Calls Try.prog 40 #[.func (.func 41) #[] #[], .slice (some ⟨g, 0, none⟩) 2 2] (W.alloc (.cells #[.int .i64 d, .int .i64 u] 3)) (RetM W (num31 d = true ∧ num31 u = true)) := by
  have h := allF_any (some ⟨g, 0, none⟩) 2 2 [d, u] (W.alloc (.cells #[.int .i64 d, .int .i64 u] 3)) ((reads_at W #[.int .i64 d, .int .i64 u] 3 hg rfl rfl).more (by simp; omega)) (by decide)
  refine h.mono ?_
  rintro e w' ⟨b, rfl, hb, hbw⟩
  exact ⟨b, rfl, by rw [hb]; simp, bto0 (ball (Below.refl _ _) _) hbw⟩
theorem all3_any (d u v : Int) (W : World) (g : Nat) (hg : g = W.heap.size) : Calls Try.prog 40 #[.func (.func 41) #[] #[], .slice (some ⟨g, 0, none⟩) 3 3] (W.alloc (.cells #[.int .i64 d, .int .i64 u, .int .i64 v] 3)) (RetM W (num31 d = true ∧ num31 u = true ∧ num31 v = true)) := by
  have h := allF_any (some ⟨g, 0, none⟩) 3 3 [d, u, v] (W.alloc (.cells #[.int .i64 d, .int .i64 u, .int .i64 v] 3)) ((reads_at W #[.int .i64 d, .int .i64 u, .int .i64 v] 3 hg rfl rfl).more (by simp; omega)) (by decide)
  refine h.mono ?_
  rintro e w' ⟨b, rfl, hb, hbw⟩
  exact ⟨b, rfl, by rw [hb]; simp, bto0 (ball (Below.refl _ _) _) hbw⟩
/-- All good, and no two of one name: the same as Good. -/
theorem good_of {α : Type} {ok : α → Prop} {nm : α → List UInt8} {l : List α} {ns : List ByteArray} (hns : ns.map (fun s => s.data.toList) = l.map nm) (h : ∀ i, i < l.length → ∀ c, l[i]? = some c → ok c) (hd : Apart ns ns.length) : Good ok nm l l.length := by
  have hlen : ns.length = l.length := by have := congrArg List.length hns; simpa using this
  have hat : ∀ (k : Nat) (c : α) (s : ByteArray), l[k]? = some c → ns[k]? = some s → s.data.toList = nm c := fun k c s hc hs => by
    have h1 : (ns.map (fun s => s.data.toList))[k]? = (l.map nm)[k]? := by rw [hns]
    rw [List.getElem?_map, List.getElem?_map, hc, hs] at h1
    exact Option.some.inj h1
  intro i hi c hc
  refine ⟨h i hi c hc, fun k hk c' hc' he => ?_⟩
  have h1 := List.getElem?_eq_getElem (show i < ns.length by omega)
  have h2 := List.getElem?_eq_getElem (show k < ns.length by omega)
  refine hd i (by omega) _ h1 k hk _ h2 (nm_bytes _ _ ?_)
  rw [ByteArray.toList_eq, ByteArray.toList_eq, hat i c _ hc h1, hat k c' _ hc' h2, he]
theorem apart_of {α : Type} {ok : α → Prop} {nm : α → List UInt8} {l : List α} {ns : List ByteArray} (hns : ns.map (fun s => s.data.toList) = l.map nm) (h : Good ok nm l l.length) : Apart ns ns.length := by
  have hlen : ns.length = l.length := by have := congrArg List.length hns; simpa using this
  have hat : ∀ (k : Nat) (c : α) (s : ByteArray), l[k]? = some c → ns[k]? = some s → s.data.toList = nm c := fun k c s hc hs => by
    have h1 : (ns.map (fun s => s.data.toList))[k]? = (l.map nm)[k]? := by rw [hns]
    rw [List.getElem?_map, List.getElem?_map, hc, hs] at h1
    exact Option.some.inj h1
  intro i hi a ha k hk b hb hab
  subst hab
  have h1 := List.getElem?_eq_getElem (show i < l.length by omega)
  have h2 := List.getElem?_eq_getElem (show k < l.length by omega)
  exact (h i (by omega) _ h1).2 k hk _ h2 (by rw [← hat i _ _ h1 ha, ← hat k _ _ h2 hb])
set_option maxRecDepth 100000 in
set_option maxHeartbeats 8000000 in
theorem mayTable_any (t : Tb) (w : World) (ht : TbOk w w.heap.size t) : Calls Try.prog 20 #[t.agg] w (RetM w (MayT t.pt)) := by
  obtain ⟨⟨hz0, hz1, hcr, hcs⟩, hf0, hf1⟩ := ht
  have hln : t.cols.length = t.n := by have := hcr.1; rw [vC_len] at this; omega
  obtain ⟨nm, A, n, c, f, rr, p, cols⟩ := t
  simp only at hcr hcs hln hf0 hf1 hz0 hz1
  have hlp : (cols.map Cl.pc).length = n := by rw [List.length_map]; exact hln
  have hnsl : (cols.map Cl.nm).length = n := by rw [List.length_map]; exact hln
  unfold maxLen at hz1
  have nI : (n : Int) ≤ 9223372036854775807 := by omega
  have HZ := Lib.hid hz0
  have wf : IntKind.i64.wrap f = f := Go.IntWalk.i64_in _ ⟨by omega, by omega⟩
  have HC := Lib.hid (And.intro hcr (And.intro hcs (And.intro hln (And.intro hlp hnsl))))
  clear hz0 hz1 hcr hcs hln hlp hnsl
  obtain ⟨bn, hbn⟩ : ∃ b, nameB nm.data.toList = b := ⟨_, rfl⟩
  have NM : Hid (∀ W : World, Calls Try.prog 9 #[.string nm] W fun e w' => e = .returned (.bool bn) ∧ W = w') := Lib.hid fun W => by have h := name2_any nm HZ.out W; rwa [hbn] at h
  have HN := Lib.hid hbn
  clear hbn
  have hbb : Below w.heap.size w (w.alloc (.cells #[.string nm, .slice A n c, .int .u32 f, .int .i64 rr, .int .i64 p] 44)) := ball (Below.refl _ _) _
  have HBB := Lib.hid hbb
  clear hbb
  by_cases hq : (bn = true ∧ 1 ≤ n) ∧ n ≤ 8
  · obtain ⟨⟨rfl, c1⟩, c8⟩ := hq
    have c1I : (1 : Int) ≤ (n : Int) := by omega
    have c8I : (n : Int) ≤ 8 := by omega
    go_enter Try.func20, Try.ntmps20
    go_wp2_with (first
      | (go_at_call 9; (with_reducible refine (NM.out _).mono ?_); rintro e w' ⟨rfl, rfl⟩))
    clear NM
    go_loopw [3, 25] (fun u v wr => ∃ i : Nat, i ≤ n ∧ v = .int .i64 i ∧ OwnS wr w.heap.size u ((cols.map Cl.nm).take i) ∧ Below w.heap.size w wr ∧ Blk wr w.heap.size 44 #[.string nm, .slice A n c, .int .u32 f, .int .i64 rr, .int .i64 p] ∧ ∀ j, j < i → ∀ q, (cols.map Cl.pc)[j]? = some q → OkC q) (fun _ v _ => n - (intOf v).toNat)
    case atStart => exact ⟨0, by omega, rfl, OwnS.nil _ _, HBB.out, Blk.new _ _ _, fun j hj => by omega⟩
    case round =>
      obtain ⟨wo, rfl⟩ : ∃ wo : World, wo = wr := ⟨_, rfl⟩
      obtain ⟨i, hi, rfl, own, hb, hbk, hg⟩ := hrel
      have q0 : (0 : Int) ≤ (i : Int) := by omega
      have blt := hbk.lt
      by_cases hlt : i < n
      · have q1 : (i : Int) < (n : Int) := by omega
        obtain ⟨ad, q, rfl, hab, hq, d0, d1, d2, d3⟩ := (HC.out.1.below hb).cl_ hlt
        have hqok := HC.out.2.1 q (List.mem_of_getElem? hq)
        have hpq : (cols.map Cl.pc)[i]? = some q.pc := by rw [List.getElem?_map, hq]; rfl
        have htk : (cols.map Cl.nm).take (i + 1) = (cols.map Cl.nm).take i ++ [q.nm] := by rw [List.take_add_one, List.getElem?_map, hq]; rfl
        have hlk : ((cols.map Cl.nm).take i).length = i := by rw [List.length_take]; have := HC.out.2.2.2.2; omega
        obtain ⟨qn, qk, qd, qu⟩ := q
        have k0 : (0 : Int) ≤ qk := hqok.2.1
        have k2 : qk ≤ 255 := hqok.2.2
        have HQ := Lib.hid (And.intro hqok (And.intro hpq (And.intro htk (And.intro hlk (And.intro own (And.intro hb (And.intro hbk hg)))))))
        have HQN : Hid (qn.size ≤ maxLen) := Lib.hid hqok.1
        obtain ⟨bq, hbq⟩ : ∃ b, nameB qn.data.toList = b := ⟨_, rfl⟩
        have NQ : Hid (∀ W : World, Calls Try.prog 9 #[.string qn] W fun e w' => e = .returned (.bool bq) ∧ W = w') := Lib.hid fun W => by have h := name2_any qn HQN.out W; rwa [hbq] at h
        have HBQ := Lib.hid hbq
        clear hqok hpq htk hlk own hb hbk hg hq hbq
        have FAIL := Lib.hid (fun (h : MayT ⟨nm.data.toList, cols.map Cl.pc, f, rr, p⟩) => (show OkC ⟨qn.data.toList, qk, qd, qu⟩ from (h.2.2.2.2.2.2 i (by rw [HC.out.2.2.2.1]; exact hlt) _ HQ.out.2.1).1))
        by_cases hbad : bq = false ∨ ¬ (1 ≤ qk ∧ qk ≤ 3)
        · by_cases hbf : bq = false
          · subst hbf
            go_wp2_with (first
              | (go_at_call 9; (with_reducible refine (NQ.out _).mono ?_); rintro e w' ⟨rfl, rfl⟩))
            go_ret
            exact ⟨false, rfl, ⟨fun h => (by cases h), fun h => (by have h1 := (FAIL.out h).1; change nameB qn.data.toList = true at h1; rw [HBQ.out] at h1; cases h1)⟩, ball HQ.out.2.2.2.2.2.1 _⟩
          · have hk13 : ¬ (1 ≤ qk ∧ qk ≤ 3) := by rcases hbad with h | h; exact absurd h hbf; exact h
            obtain rfl : bq = true := by cases bq; exact absurd rfl hbf; rfl
            have x1 : (qk != 1) = true := by simp; omega
            have x2 : (qk != 2) = true := by simp; omega
            have x3 : (qk != 3) = true := by simp; omega
            have HK3 := Lib.hid hk13
            clear hbf hbad hk13
            go_wp2_with (first
              | (go_at_call 9; (with_reducible refine (NQ.out _).mono ?_); rintro e w' ⟨rfl, rfl⟩))
            go_ret
            exact ⟨false, rfl, ⟨fun h => (by cases h), fun h => (HK3.out (FAIL.out h).2.1).elim⟩, ball HQ.out.2.2.2.2.2.1 _⟩
        · have hk13 : 1 ≤ qk ∧ qk ≤ 3 := by
            by_cases h : 1 ≤ qk ∧ qk ≤ 3
            · exact h
            · exact absurd (.inr h) hbad
          obtain rfl : bq = true := by
            cases bq
            · exact absurd (.inl rfl) hbad
            · rfl
          have HK3 := Lib.hid hk13
          have AL := Lib.hid fun (W : World) (g : Nat) (hg : g = W.heap.size) => all2_any qd qu W g hg
          obtain ⟨y1, hy1⟩ : ∃ b, (qk != 1) = b := ⟨_, rfl⟩
          obtain ⟨y2, hy2⟩ : ∃ b, (qk != 2) = b := ⟨_, rfl⟩
          obtain ⟨y3, hy3⟩ : ∃ b, (qk != 3) = b := ⟨_, rfl⟩
          have hyy : (y1 && y2 && y3) = false := by rw [← hy1, ← hy2, ← hy3]; simp; omega
          clear hbad hk13
          cases y1 <;> cases y2 <;> cases y3
          all_goals first
            | (exfalso; revert hyy; decide)
            | (clear hyy
               go_wp2_with (first
                 | (go_at_call 9; (with_reducible refine (NQ.out _).mono ?_); rintro e w' ⟨rfl, rfl⟩)
                 | (go_at_call 40; (with_reducible refine (AL.out _ _ (by simp)).mono ?_); rintro e w1 ⟨b, rfl, hbb, hb1⟩; have hbw1 : Below w.heap.size w w1 := (bto0 (ball HQ.out.2.2.2.2.2.1 _) hb1); have hbk1 := ((HQ.out.2.2.2.2.2.2.1.alloc (.cells #[.string qn, .int .u8 qk, .int .i64 qd, .int .i64 qu] 46)).below hb1 (by simp; omega)); have own1 := (HQ.out.2.2.2.2.1.alloc (.cells #[.string qn, .int .u8 qk, .int .i64 qd, .int .i64 qu] 46)).below hb1; have hX := ((Blk.new wo 46 #[.string qn, .int .u8 qk, .int .i64 qd, .int .i64 qu]).below hb1 (by simp)); have x0 : w1.cell? ⟨wo.heap.size, 0, none⟩ = some (.string qn) := hX.cell 0; have hxlt := hX.lt; have HM := Lib.hid (And.intro hbb (And.intro hbw1 (And.intro hbk1 own1))); have hz1 := hbw1.size; clear hbb hb1 hbw1 hbk1 own1 hX)
                 | (at_builtin; refine wpList_pushN rfl _ _ rfl w.heap.size _ ((cols.map Cl.nm).take i) qn (by first | rfl | (simp; done) | (simp [go_sem]; done)) HM.out.2.2.2 _ (by first | rfl | (simp; done) | (simp [go_sem]; done)) (by simp) (by rw [HQ.out.2.2.2.1]; omega) (by omega) ?_; intro v2 w2 own2 kp2))
               all_goals first
                 | (have hbf : b = false := by simpa using ‹(!b) = true›
                    subst hbf
                    go_ret
                    exact ⟨false, rfl, ⟨fun h => (by cases h), fun h => absurd (HM.out.1.2 ⟨(FAIL.out h).2.2.1, (FAIL.out h).2.2.2⟩) (by decide)⟩, HM.out.2.1⟩)
                 | (have hbf : b = true := by simpa using ‹(!b) = false›
                    subst hbf
                    have hd := HM.out.1.1 (by first | rfl | trivial)
                    exact ⟨⟨i + 1, by omega, by go_num, by rw [HQ.out.2.2.1]; exact own2, kp2.below _ _ (Nat.le_refl _) HM.out.2.1, kp2.blk _ _ _ (by decide) HM.out.2.2.1, fun j hj q hq => by
                      by_cases hji : j < i
                      · exact HQ.out.2.2.2.2.2.2.2 j hji q hq
                      · obtain rfl : j = i := by omega
                        rw [HQ.out.2.1] at hq
                        cases hq
                        exact ⟨HBQ.out, HK3.out, hd.1, hd.2⟩⟩, by simp [intOf]; omega⟩))
      · obtain rfl : i = n := by omega
        obtain ⟨A2, c2, rfl, hc2⟩ := own.form
        have hnt : (cols.map Cl.nm).take i = cols.map Cl.nm := List.take_of_length_le (by have := HC.out.2.2.2.2; omega)
        have hln2 := HC.out.2.2.2.2
        rw [hnt] at own hc2 ⊢
        rw [hln2] at own hc2 ⊢
        have D := Lib.hid (differS_any A2 i c2 (cols.map Cl.nm) _ (own.reads.1) (by unfold maxLen; omega) hc2)
        have b2 : wo.cell? ⟨w.heap.size, 2, none⟩ = some (.int .u32 f) := hbk.cell 2
        have AL := Lib.hid fun (W : World) (g : Nat) (hg : g = W.heap.size) => all3_any f rr p W g hg
        have hns : (cols.map Cl.nm).map (fun s => s.data.toList) = (cols.map Cl.pc).map PC.nm := by rw [List.map_map, List.map_map]; rfl
        have MY := Lib.hid (fun (h1 : Apart (cols.map Cl.nm) i) (h2 : num31 f = true ∧ num31 rr = true ∧ num31 p = true) => (show MayT ⟨nm.data.toList, cols.map Cl.pc, f, rr, p⟩ from ⟨HN.out, by rw [HC.out.2.2.2.1]; exact c1, by rw [HC.out.2.2.2.1]; exact c8, h2.1, h2.2.1, h2.2.2, good_of hns (fun j hj c hc => hg j (by rw [HC.out.2.2.2.1] at hj; exact hj) c hc) (by rw [hln2]; exact h1)⟩))
        have MZ := Lib.hid (fun (h : MayT ⟨nm.data.toList, cols.map Cl.pc, f, rr, p⟩) => And.intro (show Apart (cols.map Cl.nm) i from by have h1 := apart_of hns h.2.2.2.2.2.2; rwa [hln2] at h1) (And.intro h.2.2.2.1 (And.intro h.2.2.2.2.1 h.2.2.2.2.2.1)))
        have HB := Lib.hid (And.intro hb hbk)
        clear own hc2 hnt hln2 hns hg hb hbk b2
        go_wp2_with fail
        refine D.out.mono ?_
        rintro e w1 ⟨b, rfl, hbb, hb1⟩
        have hk1 := HB.out.2.below hb1 blt
        have x2 : w1.cell? ⟨w.heap.size, 2, none⟩ = some (.int .u32 f) := hk1.cell 2
        have x3 : w1.cell? ⟨w.heap.size, 3, none⟩ = some (.int .i64 rr) := hk1.cell 3
        have x4 : w1.cell? ⟨w.heap.size, 4, none⟩ = some (.int .i64 p) := hk1.cell 4
        have HD := Lib.hid (And.intro hbb (bto0 HB.out.1 hb1))
        clear hbb hb1 hk1
        cases b with
        | false =>
          go_wp2
          go_ret
          exact ⟨false, rfl, ⟨fun h => (by cases h), fun h => absurd (HD.out.1.2 (MZ.out h).1) (by decide)⟩, HD.out.2⟩
        | true =>
          go_wp2_with fail
          refine (AL.out _ _ (by simp)).mono ?_
          rintro e w2 ⟨b, rfl, hbb, hb2⟩
          have HE := Lib.hid (And.intro hbb (bto0 HD.out.2 hb2))
          clear hbb hb2
          go_wp2
          go_ret
          exact ⟨b, rfl, ⟨fun h => MY.out (HD.out.1.1 (by first | rfl | trivial)) (HE.out.1.1 h), fun h => HE.out.1.2 (MZ.out h).2⟩, HE.out.2⟩
  · have HQ := Lib.hid (fun (h : MayT ⟨nm.data.toList, cols.map Cl.pc, f, rr, p⟩) => hq ⟨⟨by rw [← HN.out]; exact h.1, by have := h.2.1; rw [HC.out.2.2.2.1] at this; exact this⟩, by have := h.2.2.1; rw [HC.out.2.2.2.1] at this; exact this⟩)
    cases bn with
    | false =>
      clear hq
      go_enter Try.func20, Try.ntmps20
      go_wp2_with (first
        | (go_at_call 9; (with_reducible refine (NM.out _).mono ?_); rintro e w' ⟨rfl, rfl⟩))
      go_ret
      exact ⟨false, rfl, ⟨fun h => (by cases h), fun h => (HQ.out h).elim⟩, HBB.out⟩
    | true =>
      by_cases c1 : 1 ≤ n
      · have c8 : (8 : Int) < (n : Int) := by
          by_cases h : n ≤ 8
          · exact absurd ⟨⟨rfl, c1⟩, h⟩ hq
          · omega
        clear hq
        go_enter Try.func20, Try.ntmps20
        go_wp2_with (first
          | (go_at_call 9; (with_reducible refine (NM.out _).mono ?_); rintro e w' ⟨rfl, rfl⟩))
        go_ret
        exact ⟨false, rfl, ⟨fun h => (by cases h), fun h => (HQ.out h).elim⟩, HBB.out⟩
      · obtain rfl : n = 0 := by omega
        clear hq
        go_enter Try.func20, Try.ntmps20
        go_wp2_with (first
          | (go_at_call 9; (with_reducible refine (NM.out _).mono ?_); rintro e w' ⟨rfl, rfl⟩))
        go_ret
        exact ⟨false, rfl, ⟨fun h => (by cases h), fun h => (HQ.out h).elim⟩, HBB.out⟩
end
end Go.Proofs.Ytflolnilagogpaa
