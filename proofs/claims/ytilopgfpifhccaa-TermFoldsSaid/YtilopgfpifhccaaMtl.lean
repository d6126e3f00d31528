/-
  Several texts in one: R12 R13 R24 R26 R14 R15.
-/
import Derived.Test.YtilopgfpifhccaaMtk
/-
  The program's operation and test, whole: over a contract of value.
-/
namespace Go.Proofs.Ytilopgfpifhccaa
section
set_option linter.unusedSimpArgs false
set_option linter.unusedVariables false
open Go.RowKit

theorem kn_nn {a : Int} (h : 0 ≤ a) : 0 ≤ kn a := by unfold kn; split <;> omega
theorem nt_nn {a : Int} (h : 0 ≤ a) : 0 ≤ nt a := by
  unfold nt
  split
  · omega
  · split
    · omega
    · exact kn_nn h
theorem fold_nn (g : Int → Int) : ∀ (l : List Int) (m : Int), 0 ≤ m → (∀ x ∈ l, 0 ≤ g x) → 0 ≤ l.foldl (fun m a => min m (g a)) m
  | [], m, h, _ => h
  | x :: l, m, h, hl => fold_nn g l _ (by have := hl x (by simp); show 0 ≤ min m (g x); omega) fun y hy => hl y (by simp [hy])
theorem andL_nn {l : List Int} (h : ∀ x ∈ l, 0 ≤ x) : 0 ≤ andL l := fold_nn kn l 3 (by omega) fun x hx => kn_nn (h x hx)
theorem orL_nn {l : List Int} (h : ∀ x ∈ l, 0 ≤ x) : 0 ≤ orL l := nt_nn (fold_nn nt l 3 (by omega) fun x hx => nt_nn (h x hx))
theorem cmpO_nn (op : ByteArray) (a b : Option Vl) : 0 ≤ cmpO op a b := by
  cases a with
  | none => exact (by decide : (0 : Int) ≤ 2)
  | some x =>
    cases b with
    | none => exact (by decide : (0 : Int) ≤ 2)
    | some y => exact (testV_bd op x y).1
theorem conK_nn (op : ByteArray) (a b : Option Vl) : 0 ≤ conK op a b := by
  have ha := (truO_bd a).1
  have hb := (truO_bd b).1
  unfold conK
  split
  · exact andL_nn (by simp [ha, hb])
  · split
    · exact orL_nn (by simp [ha, hb])
    · split
      · exact cmpO_nn _ _ _
      · omega
/-- What operation makes of a term of one argument. -/
theorem opn3_any (O : Nat) (ev : Tm → Option Vl) (l : List Tm) (h : TmH) (A0 : Option Addr) (n0 c0 : Nat) (w : World) (hk : h.k = 3) (hrd : Reads w w.heap.size 11 A0 n0 (vT l)) (hv : ∀ t ∈ l, HVal w O t (ev t)) (hok : ∀ t ∈ l, okO (ev t)) :
    Calls Try.prog 35 #[.pointer (some ⟨O, 0, none⟩), h.agg A0 n0 c0] w (RetB w (retO (match l.map ev with | [a] => oneK h.op.toList a | _ => none))) := by
  have hl : l.length = n0 := by have := hrd.1; rw [vT_len] at this; omega
  by_cases h1 : h.op.toList = [78, 79, 84]
  · by_cases hn : n0 = 1
    · obtain ⟨a, rfl⟩ : ∃ a, l = [a] := by
        match l, hl with
        | [a], _ => exact ⟨a, rfl⟩
        | [], hl => simp at hl; omega
        | _ :: _ :: _, hl => simp at hl; omega
      have e : (match [a].map ev with | [a] => oneK h.op.toList a | _ => none) = valT (nt (truO (ev a))) := by
        show oneK h.op.toList (ev a) = _
        exact if_pos h1
      rw [e]
      exact op_a O _ (nt_nn (truO_bd _).1) h A0 n0 c0 w hk hn h1 fun W hW => connNot_any O a (ev a) h A0 n0 c0 W ((hrd.below hW).more hW.size) ((hv a (by simp)).up hW) h1
    · have e : (match l.map ev with | [a] => oneK h.op.toList a | _ => none) = none := by
        match l, (show l.length ≠ 1 by omega) with
        | [], _ => rfl
        | [_], h => exact absurd rfl h
        | _ :: _ :: _, _ => rfl
      rw [e]
      exact op_d1 O h A0 n0 c0 w hk h1 (by omega)
  · by_cases h2 : h.op.toList = [45]
    · by_cases hn : n0 = 1
      · obtain ⟨a, rfl⟩ : ∃ a, l = [a] := by
          match l, hl with
          | [a], _ => exact ⟨a, rfl⟩
          | [], hl => simp at hl; omega
          | _ :: _ :: _, hl => simp at hl; omega
        have e : (match [a].map ev with | [a] => oneK h.op.toList a | _ => none) = (ev a).bind turnO := by
          show oneK h.op.toList (ev a) = _
          exact (if_neg h1).trans (if_pos h2)
        rw [e]
        exact op_b O _ h A0 n0 c0 w hk hn h2 fun W hW => number1_any O a (ev a) h A0 n0 c0 W ((hrd.below hW).more hW.size) ((hv a (by simp)).up hW) (hok a (by simp)) hk
      · have e : (match l.map ev with | [a] => oneK h.op.toList a | _ => none) = none := by
          match l, (show l.length ≠ 1 by omega) with
          | [], _ => rfl
          | [_], h => exact absurd rfl h
          | _ :: _ :: _, _ => rfl
        rw [e]
        exact op_d2 O h A0 n0 c0 w hk h2 (by omega)
    · have e : (match l.map ev with | [a] => oneK h.op.toList a | _ => none) = none := by
        match l with
        | [] => rfl
        | [a] =>
          show oneK h.op.toList (ev a) = none
          exact (if_neg h1).trans (if_neg h2)
        | _ :: _ :: _ => rfl
      rw [e]
      exact op_c O h A0 n0 c0 w hk h1 h2

theorem opn4_any (O : Nat) (ev : Tm → Option Vl) (l : List Tm) (h : TmH) (A0 : Option Addr) (n0 c0 : Nat) (w : World) (hk : h.k = 4) (hrd : Reads w w.heap.size 11 A0 n0 (vT l)) (hn1 : n0 ≤ 1000) (hv : ∀ t ∈ l, HVal w O t (ev t)) (hok : ∀ t ∈ l, okO (ev t)) :
    Calls Try.prog 35 #[.pointer (some ⟨O, 0, none⟩), h.agg A0 n0 c0] w (RetB w (retO (match l.map ev with | [a, b] => twoK h.op a b | _ => none))) := by
  have hl : l.length = n0 := by have := hrd.1; rw [vT_len] at this; omega
  by_cases h1 : h.op.toList = [78, 79, 84]
  · have e : (match l.map ev with | [a, b] => twoK h.op a b | _ => none) = none := by
      match l with
      | [] => rfl
      | [_] => rfl
      | [a, b] =>
        show twoK h.op (ev a) (ev b) = none
        exact if_pos h1
      | _ :: _ :: _ :: _ => rfl
    rw [e]
    exact op_e O h A0 n0 c0 w hk h1
  · by_cases hn : n0 = 2
    · obtain ⟨a, b, rfl⟩ : ∃ a b, l = [a, b] := by
        match l, hl with
        | [a, b], _ => exact ⟨a, b, rfl⟩
        | [], hl => simp at hl; omega
        | [_], hl => simp at hl; omega
        | _ :: _ :: _ :: _, hl => simp at hl; omega
      show Calls _ _ _ _ (RetB w (retO (twoK h.op (ev a) (ev b))))
      unfold twoK
      rw [if_neg (show ¬ h.op.toList = wNot from h1)]
      by_cases h2 : isArith h.op.toList
      · rw [if_pos h2]
        have HC : ∀ W, Below w.heap.size w W → Calls Try.prog 51 #[.pointer (some ⟨O, 0, none⟩), h.agg A0 n0 c0] W (RetB W (retO (numO h.op.toList (ev a) (ev b)))) :=
          fun W hW => number2_any O a b (ev a) (ev b) h A0 n0 c0 W ((hrd.below hW).more hW.size) ((hv a (by simp)).up hW) ((hv b (by simp)).up hW) (hok a (by simp)) (hok b (by simp)) hk
        rcases h2 with h2 | h2 | h2
        · exact op_gplus O _ h A0 n0 c0 w hk hn h2 HC
        · exact op_gminus O _ h A0 n0 c0 w hk hn h2 HC
        · exact op_gstar O _ h A0 n0 c0 w hk hn h2 HC
      · rw [if_neg h2]
        refine op_h O _ (conK_nn _ _ _) h A0 n0 c0 w hk hn h1 h2 fun W hW => ?_
        have hrW := (hrd.below hW).more hW.size
        have hvW : ∀ t ∈ [a, b], HVal W O t (ev t) := fun t ht => (hv t ht).up hW
        unfold conK
        split
        · exact connAnd_any O ev [a, b] h A0 n0 c0 W hrW hn1 hvW (by assumption)
        · split
          · exact connOr_any O ev [a, b] h A0 n0 c0 W hrW hn1 hvW (by assumption)
          · split
            · exact connCmp_any O a b (ev a) (ev b) h A0 n0 c0 W hrW (hvW a (by simp)) (hvW b (by simp)) (by assumption)
            · exact connNo_any O h A0 n0 c0 W h1 (by assumption) (by assumption) (by assumption)
    · have e : (match l.map ev with | [a, b] => twoK h.op a b | _ => none) = none := by
        match l, (show l.length ≠ 2 by omega) with
        | [], _ => rfl
        | [_], _ => rfl
        | [_, _], h => exact absurd rfl h
        | _ :: _ :: _ :: _, _ => rfl
      rw [e]
      cases h2 : (h.op.toList == [45])
      · exact op_ffalse O h A0 n0 c0 w hk h1 h2 (by omega)
      · exact op_ftrue O h A0 n0 c0 w hk h1 h2 (by omega)

theorem testN_nn (no : Bool) {t : Int} (h : 0 ≤ t) : 0 ≤ testN no t := by
  unfold testN
  split
  · exact nt_nn h
  · exact h
theorem nullT_nn (o : Option Vl) : 0 ≤ nullT o := by
  cases o with
  | none => exact (by decide : (0 : Int) ≤ 2)
  | some v => unfold nullT; simp only; split <;> omega
/-- What test says of a term, as value makes of it. -/
theorem tst5_any (O : Nat) (ev : Tm → Option Vl) (l : List Tm) (h : TmH) (A0 : Option Addr) (n0 c0 : Nat) (w : World) (hk : h.k = 5) (hrd : Reads w w.heap.size 11 A0 n0 (vT l)) (hv : ∀ t ∈ l, HVal w O t (ev t)) :
    ∃ τ, 0 ≤ τ ∧ valT τ = (match l.map ev with | [a] => nullK h.no a | _ => none) ∧ ∀ W, Below w.heap.size w W → Calls Try.prog 37 #[.pointer (some ⟨O, 0, none⟩), h.agg A0 n0 c0] W (RetB W (.int .u8 τ)) := by
  have hl : l.length = n0 := by have := hrd.1; rw [vT_len] at this; omega
  by_cases hn : n0 = 1
  · obtain ⟨a, rfl⟩ : ∃ a, l = [a] := by
      match l, hl with
      | [a], _ => exact ⟨a, rfl⟩
      | [], hl => simp at hl; omega
      | _ :: _ :: _, hl => simp at hl; omega
    refine ⟨testN h.no (nullT (ev a)), testN_nn _ (nullT_nn _), ?_, fun W hW => test_5 O h A0 n0 c0 W hk a (ev a) ((hrd.below hW).more hW.size) ((hv a (by simp)).up hW)⟩
    show _ = nullK h.no (ev a)
    cases ev a with
    | none => cases h.no <;> rfl
    | some v => rfl
  · refine ⟨2, by omega, ?_, fun W hW => ?_⟩
    · match l, (show l.length ≠ 1 by omega) with
      | [], _ => rfl
      | [_], h => exact absurd rfl h
      | _ :: _ :: _, _ => rfl
    · by_cases hz : n0 = 0
      · exact test_z5 O h A0 n0 c0 W hk hz
      · exact test_50 O h A0 n0 c0 W hk (by omega) (by omega)
theorem tst6_any (O : Nat) (ev : Tm → Option Vl) (l : List Tm) (h : TmH) (A0 : Option Addr) (n0 c0 : Nat) (w : World) (hk : h.k = 6) (hrd : Reads w w.heap.size 11 A0 n0 (vT l)) (hn1 : n0 ≤ 1000) (hnc : n0 ≤ c0) (hc : c0 ≤ maxLen) (hv : ∀ t ∈ l, HVal w O t (ev t)) :
    ∃ τ, 0 ≤ τ ∧ valT τ = (match l.map ev with | a :: r => inK h.no a r | _ => none) ∧ ∀ W, Below w.heap.size w W → Calls Try.prog 37 #[.pointer (some ⟨O, 0, none⟩), h.agg A0 n0 c0] W (RetB W (.int .u8 τ)) := by
  have hl : l.length = n0 := by have := hrd.1; rw [vT_len] at this; omega
  match l, hl, hrd, hv with
  | [], hl, hrd, hv => exact ⟨2, by omega, rfl, fun W hW => test_z6 O h A0 n0 c0 W hk (by simpa using hl.symm)⟩
  | a :: r, hl, hrd, hv =>
    refine ⟨testN h.no (orL ((r.map ev).map (cmpO ⟨#[61]⟩ (ev a)))), testN_nn _ (orL_nn fun x hx => ?_), ?_, fun W hW => ?_⟩
    · obtain ⟨y, _, rfl⟩ := List.mem_map.1 hx
      exact cmpO_nn _ _ _
    · show _ = inK h.no (ev a) (r.map ev)
      unfold inK testN
      rfl
    · refine test_6 O h A0 n0 c0 W hk a r _ ((hrd.below hW).more hW.size) hnc hc fun W2 A n c hW2 hr => ?_
      have hb := bto0 hW hW2
      refine among18_any O ev a A n c r W2 ((hv a (by simp)).up hb) hr ?_ fun t ht => (hv t (by simp [ht])).up hb
      have := hr.1
      rw [vT_len] at this
      simp at hl
      omega
end
end Go.Proofs.Ytilopgfpifhccaa
/-
  The program's value, by fuel; Eval, Truth, Holds.
-/
namespace Go.Proofs.Ytilopgfpifhccaa
section
set_option linter.unusedSimpArgs false
set_option linter.unusedVariables false
open Go.RowKit

/-- Terms that are gone through: so deep, so many arguments, texts so long. -/
def shV : Nat → Tm → Prop
  | 0, _ => False
  | f + 1, .mk h _ n _ args => n ≤ 17 ∧ h.v.s.size ≤ 3000 ∧ ∀ a ∈ args, shV f a
theorem shV_of : ∀ (f : Nat) (d : Int) (t : Tm), grT f d t = false → shV f t
  | 0, _, _, h => by cases h
  | f + 1, d, .mk h A n c args, hg => by
    unfold grT at hg
    split at hg
    · cases hg
    · rename_i hc
      refine ⟨by omega, by omega, fun a ha => shV_of f (d + 1 + n) a ?_⟩
      rw [List.any_eq_false] at hg
      simpa using hg a ha
/-- What a call of value knows of rows and totals. -/
structure OvO (w : World) (O : Nat) (RA : Option Addr) (rn rc : Nat) (rws : List Rv) (TA : Option Addr) (tn tc : Nat) (tot : List Vl) : Prop where
  lt : O < w.heap.size
  c0 : w.cell? ⟨O, 0, none⟩ = some (.slice RA rn rc)
  c1 : w.cell? ⟨O, 1, none⟩ = some (.slice TA tn tc)
  env : EnvO w RA rn rws TA tn tot
theorem OvO.below0 {w w' : World} {O : Nat} {RA : Option Addr} {rn rc : Nat} {rws : List Rv} {TA : Option Addr} {tn tc : Nat} {tot : List Vl} (h : OvO w O RA rn rc rws TA tn tc tot) (hb : Below w.heap.size w w') : OvO w' O RA rn rc rws TA tn tc tot :=
  ⟨Nat.lt_of_lt_of_le h.lt hb.size, (hb.cell (p := ⟨O, 0, none⟩) h.lt).trans h.c0, (hb.cell (p := ⟨O, 1, none⟩) h.lt).trans h.c1, h.env.below0 hb⟩

theorem doO_ok (op : List UInt8) (a b : Vl) : okO (doO op a b) := by
  intro v hv
  unfold doO at hv
  split at hv
  · injection hv with hv
    subst hv
    unfold doV
    split
    · exact okV_zero
    · split
      · exact okV_zero
      · split
        · exact ⟨⟨⟨(by decide : (0 : Int) ≤ 1), (by decide : (1 : Int) ≤ 255)⟩, opN_rng _ _ _, (by decide : (0 : Nat) ≤ maxLen)⟩, (by decide : (0 : Nat) ≤ 1000000)⟩
        · exact okV_zero
  · cases hv
theorem none_ok : okO none := fun v h => by cases h
theorem twoK_ok (op : ByteArray) (a b : Option Vl) : okO (twoK op a b) := by
  unfold twoK
  split
  · exact none_ok
  · split
    · cases a with
      | none => exact none_ok
      | some x =>
        cases b with
        | none => exact none_ok
        | some y => exact doO_ok _ _ _
    · exact valT_ok _
theorem atR_ok {rows : List (List Vl)} (h : ∀ r ∈ rows, ∀ v ∈ r, okV v) (i k : Int) : okO (atR rows i k) := by
  unfold atR
  split
  · exact none_ok
  · cases hr : rows[i.toNat]? with
    | none => exact none_ok
    | some r => exact atO_ok (h r (List.mem_of_getElem? hr)) k
theorem evT_ok {rows : List (List Vl)} {tot : List Vl} (hr : ∀ r ∈ rows, ∀ v ∈ r, okV v) (ht : ∀ v ∈ tot, okV v) : ∀ (f : Nat) (t : Tm) (w : World) (B : Nat), TmIn w B t → shV f t → okO (evT rows tot f t)
  | 0, _, _, _, _, h => absurd h id
  | f + 1, .mk h A n c args, w, B, hin, hs => by
    have hok := hin.hok
    have hargs := hin.args
    simp only [Tm.h, Tm.args] at hok hargs
    obtain ⟨_, hsz, hsa⟩ := hs
    have ih : ∀ a ∈ args, okO (evT rows tot f a) := fun a ha => evT_ok hr ht f a w B (hargs a ha) (hsa a ha)
    rw [evT_succ]
    unfold evK
    split
    · intro v hv
      injection hv with hv
      subst hv
      exact ⟨hok.2.2.1, by omega⟩
    · split
      · exact atR_ok hr _ _
      · split
        · exact atO_ok ht _
        · split
          · match args, ih with
            | [], _ => exact none_ok
            | [a], ih => exact oneK_ok _ (ih a (by simp))
            | _ :: _ :: _, _ => exact none_ok
          · split
            · match args with
              | [] => exact none_ok
              | [_] => exact none_ok
              | [a, b] => exact twoK_ok _ _ _
              | _ :: _ :: _ :: _ => exact none_ok
            · split
              · match args with
                | [] => exact none_ok
                | [a] => exact nullK_ok _ _
                | _ :: _ :: _ => exact none_ok
              · split
                · match args with
                  | [] => exact none_ok
                  | a :: r => exact valT_ok _
                · exact none_ok

theorem val18_any (O : Nat) (RA : Option Addr) (rn rc : Nat) (rws : List Rv) (TA : Option Addr) (tn tc : Nat) (tot : List Vl) : ∀ (f : Nat) (t : Tm) (w : World), OvO w O RA rn rc rws TA tn tc tot → TmIn w w.heap.size t → shV f t →
    Calls Try.prog 21 #[.pointer (some ⟨O, 0, none⟩), t.agg] w (RetB w (retO (evT (rws.map Rv.l) tot f t))) := by
  intro f
  induction f with
  | zero => intro t w _ _ h; exact absurd h id
  | succ f ih =>
    intro t w hO hin hs
    have hro : ∀ r ∈ rws.map Rv.l, ∀ v ∈ r, okV v := by
      intro r hr
      obtain ⟨x, hx, rfl⟩ := List.mem_map.1 hr
      exact (hO.env.e x hx).2.2
    have hev : ∀ a ∈ t.args, okO (evT (rws.map Rv.l) tot f a) := by
      intro a ha
      refine evT_ok hro hO.env.tv f a w _ (hin.args a ha) ?_
      cases t with | mk h A n c args => exact hs.2.2 a ha
    have hv : ∀ a ∈ t.args, HVal w O a (evT (rws.map Rv.l) tot f a) := by
      intro a ha W hW
      refine ih a W (hO.below0 hW) (((hin.args a ha).under hW).more hW.size) ?_
      cases t with | mk h A n c args => exact hs.2.2 a ha
    have hrd := hin.reads
    have hnc := hin.nc
    cases t with
    | mk h A n c args =>
      simp only [Tm.A, Tm.n, Tm.c, Tm.args] at hev hv hrd hnc
      have hn17 : n ≤ 1000 := by have := hs.1; omega
      have hE := hO.env
      rw [evT_succ]
      unfold evK
      show Calls _ _ #[_, h.agg A n c] _ _
      split
      · rename_i hk
        exact val_1 O h A n c w hk
      · split
        · rename_i _ hk
          have hrl : rws.length = rn := by have := hE.r.1; rw [vRv_len] at this; omega
          by_cases h0 : h.tb < 0
          · have e : atR (rws.map Rv.l) h.tb h.cl = none := by unfold atR; rw [if_pos h0]
            rw [e]
            exact val_2lo O h A n c w hk RA rn rc hO.c0 hO.lt hE.rn h0
          · obtain ⟨T, hT⟩ : ∃ T : Nat, h.tb = (T : Int) := ⟨h.tb.toNat, by omega⟩
            by_cases h1 : T < rn
            · obtain ⟨ad, r, rfl, hab, hr, hc⟩ := hE.r.rv_ h1
              have e : atR (rws.map Rv.l) h.tb h.cl = atO r.l h.cl := by
                unfold atR
                rw [if_neg h0, hT, Int.toNat_natCast, List.getElem?_map, hr]
                rfl
              rw [e]
              exact val_2r O h A n c w hk ad rn rc T r.A r.n r.c _ hO.c0 hO.lt hE.rn hT h1 hab hc fun W hW => at18_any r.A r.n r.c r.l h.cl W (((hE.e r (List.mem_of_getElem? hr)).1.below hW).more hW.size) (hE.e r (List.mem_of_getElem? hr)).2.1
            · have e : atR (rws.map Rv.l) h.tb h.cl = none := by
                unfold atR
                rw [if_neg h0, hT, Int.toNat_natCast, List.getElem?_eq_none (by rw [List.length_map]; omega)]
              rw [e]
              exact val_2hi O h A n c w hk RA rn rc hO.c0 hO.lt hE.rn (by omega) (by omega)
        · split
          · rename_i _ _ hk
            exact val_7 O h A n c w hk TA tn tc _ hO.c1 hO.lt fun W hW => at18_any TA tn tc tot h.cl W ((hE.t.below hW).more hW.size) hE.tn
          · split
            · rename_i _ _ _ hk
              exact val_3 O h A n c w hk _ fun W hW => opn3_any O _ args h A n c W hk ((hrd.below hW).more hW.size) (fun t ht => (hv t ht).up hW) hev
            · split
              · rename_i _ _ _ _ hk
                exact val_4 O h A n c w hk _ fun W hW => opn4_any O _ args h A n c W hk ((hrd.below hW).more hW.size) hn17 (fun t ht => (hv t ht).up hW) hev
              · split
                · rename_i _ _ _ _ _ hk
                  obtain ⟨τ, h0, h1, h2⟩ := tst5_any O _ args h A n c w hk hrd hv
                  have := val_5 O h A n c w hk τ h0 h2
                  rw [h1] at this
                  exact this
                · split
                  · rename_i _ _ _ _ _ _ hk
                    obtain ⟨τ, h0, h1, h2⟩ := tst6_any O _ args h A n c w hk hrd hn17 hnc.1 hnc.2 hv
                    have := val_6 O h A n c w hk τ h0 h2
                    rw [h1] at this
                    exact this
                  · rename_i h1 h2 h7 h3 h4 h5 h6
                    exact val_no O h A n c w h1 h2 h7 h3 h4 h5 h6
end
end Go.Proofs.Ytilopgfpifhccaa
/-
  The reference's Constant.
-/
namespace Go.Proofs.Ytilopgfpifhccaa
section
set_option linter.unusedSimpArgs false
set_option linter.unusedVariables false
open Go.RowKit

/-- No field and no total stands in a term. -/
def coT : Nat → Tm → Bool
  | 0, _ => false
  | f + 1, .mk h _ _ _ args => if h.k = 2 ∨ h.k = 7 then false else args.all (coT f)
theorem coT_succ (f : Nat) (h : TmH) (A : Option Addr) (n c : Nat) (args : List Tm) : coT (f + 1) (.mk h A n c args) = if h.k = 2 ∨ h.k = 7 then false else args.all (coT f) := rfl
theorem all_take {α : Type} {p : α → Bool} {l : List α} {k : Nat} {v : α} (h : l[k]? = some v) : (l.take (k + 1)).all p = ((l.take k).all p && p v) := by
  rw [List.take_add_one, h]; simp
set_option maxRecDepth 100000 in
set_option maxHeartbeats 8000000 in
theorem rconst_any : ∀ (f : Nat) (t : Tm) (w : World), TmIn w w.heap.size t → shV f t → Calls Try.prog 15 #[t.agg] w (RetB w (.bool (coT f t))) := by
  intro f
  induction f with
  | zero => intro t w _ h; exact absurd h id
  | succ f ih =>
    intro t w hin hsh
    have hnc := hin.nc
    have hl := hin.len
    have hrd := hin.reads
    have hargs := hin.args
    obtain ⟨⟨k0, op0, no0, ⟨vk0, vi0, vs0⟩, of0, nm0, tb0, cl0⟩, A0, n0, c0, l0⟩ := t
    simp only [Tm.h, Tm.A, Tm.n, Tm.c, Tm.args] at hnc hl hrd hargs
    obtain ⟨hn17, _, hsa⟩ := hsh
    have hX' := box_at w (Tm.mk ⟨k0, op0, no0, ⟨vk0, vi0, vs0⟩, of0, nm0, tb0, cl0⟩ A0 n0 c0 l0) 26
    have hb0 : Below w.heap.size w (w.alloc (.cells #[.int .u8 k0, .string op0, .bool no0, .int .u8 vk0, .int .i64 vi0, .string vs0, .string of0, .string nm0, .int .i64 tb0, .int .i64 cl0, .slice A0 n0 c0] 26)) := ball (Below.refl _ _) _
    simp only [Tm.agg, TmH.agg, Tm.h, Tm.A, Tm.n, Tm.c]
    by_cases h2 : k0 = 2
    · subst h2
      clear hin hX' ih hrd hargs hsa
      rw [coT_succ, if_pos (.inl rfl)]
      go_enter Try.func15, Try.ntmps15
      go_wp2_with fail
      go_ret
      exact ⟨rfl, hb0⟩
    · by_cases h7 : k0 = 7
      · subst h7
        clear hin hX' ih hrd hargs hsa
        rw [coT_succ, if_pos (.inr rfl)]
        go_enter Try.func15, Try.ntmps15
        go_wp2_with fail
        go_ret
        exact ⟨rfl, hb0⟩
      · have e2 : (k0 == 2) = false := by simpa using h2
        have e7 : (k0 == 7) = false := by simpa using h7
        rw [coT_succ, if_neg (fun h => h.elim h2 h7)]
        have Hl := Lib.hid hl
        have hnI : (n0 : Int) ≤ 17 := by omega
        have Hih := Lib.hid fun (a : Tm) (W : World) (ha : a ∈ l0) (hb : Below w.heap.size w W) => ih a W (((hargs a ha).under hb).more hb.size) (hsa a ha)
        have Hx10 : Hid ((w.alloc (.cells #[.int .u8 k0, .string op0, .bool no0, .int .u8 vk0, .int .i64 vi0, .string vs0, .string of0, .string nm0, .int .i64 tb0, .int .i64 cl0, .slice A0 n0 c0] 26)).cell? ⟨w.heap.size, 10, none⟩ = some (.slice A0 n0 c0)) := Lib.hid (by have := hX'; exact (Blk.new w 26 #[.int .u8 k0, .string op0, .bool no0, .int .u8 vk0, .int .i64 vi0, .string vs0, .string of0, .string nm0, .int .i64 tb0, .int .i64 cl0, .slice A0 n0 c0]).cell 10)
        clear hin hX' ih hargs hsa h2 h7 hl
        go_enter Try.func15, Try.ntmps15
        go_wp2_with fail
        obtain ⟨W0, hW0⟩ : ∃ W0, w.alloc (.cells #[.int .u8 k0, .string op0, .bool no0, .int .u8 vk0, .int .i64 vi0, .string vs0, .string of0, .string nm0, .int .i64 tb0, .int .i64 cl0, .slice A0 n0 c0] 26) = W0 := ⟨_, rfl⟩
        have hz0 : W0.heap.size = w.heap.size + 1 := by rw [← hW0]; simp
        rw [hW0] at hb0 Hx10 ⊢
        clear hW0
        go_loopw [3, 15] (fun j i wr => ∃ k : Nat, k ≤ n0 ∧ i = .int .i64 k ∧ (l0.take k).all (coT f) = true ∧ Below W0.heap.size W0 wr) (fun _ i _ => n0 - (intOf i).toNat)
        case atStart => exact ⟨0, Nat.zero_le _, rfl, rfl, Below.refl _ _⟩
        case round =>
          obtain ⟨k, hk, rfl, hall, hb⟩ := hrel
          have q0 : (0 : Int) ≤ (k : Int) := by omega
          have hbw := bto0 hb0 hb
          have hzw := hb.size
          have Hall := Lib.hid hall
          clear hall
          by_cases hlt : k < n0
          · have q1 : (k : Int) < (n0 : Int) := by omega
            obtain ⟨ad, v, rfl, hab, hv, hat⟩ := (hrd.below hbw).tm hlt
            have x10 : wr.cell? ⟨w.heap.size, 10, none⟩ = some (.slice (some ad) n0 c0) := (hb.cell (p := ⟨w.heap.size, 10, none⟩) (show w.heap.size < W0.heap.size by omega)).trans Hx10.out
            have HC := Lib.hid (Hih.out v wr (List.mem_of_getElem? hv) hbw)
            have hstep := all_take (p := coT f) hv
            rw [Hall.out, Bool.true_and] at hstep
            have Hstep := Lib.hid hstep
            obtain ⟨b, hbv⟩ : ∃ b, coT f v = b := ⟨_, rfl⟩
            have hno : Hid (b = false → l0.all (coT f) = false) := Lib.hid fun hbt => List.all_eq_false.2 ⟨v, List.mem_of_getElem? hv, by rw [hbv, hbt]; decide⟩
            rw [hbv] at HC Hstep
            clear hv hstep hbv Hih hrd
            obtain ⟨⟨k1, op1, no1, ⟨vk1, vi1, vs1⟩, of1, nm1, tb1, cl1⟩, A1, n1, c1, l1⟩ := v
            obtain ⟨y0, y1, y2, y3, y4, y5, y6, y7, y8, y9, y10⟩ := hat
            simp only [Tm.agg, TmH.agg, Tm.h, Tm.A, Tm.n, Tm.c] at HC y0 y1 y2 y3 y4 y5 y6 y7 y8 y9 y10
            go_wp2_with fail
            refine HC.out.mono ?_
            rintro e w1 ⟨rfl, hb1⟩
            cases b
            · go_wp2
              go_ret
              exact ⟨by rw [hno.out (by first | trivial | rfl)]; rfl, bto0 hbw hb1⟩
            · go_wp2
              go_roundw
              case rel => exact ⟨k + 1, by omega, by go_num, Hstep.out, bto0 hb hb1⟩
              case measure => simp [intOf]; omega
          · obtain rfl : k = n0 := by omega
            have hF : Hid (l0.all (coT f) = true) := Lib.hid (by have := Hall.out; rwa [List.take_of_length_le (by rw [Hl.out]; exact Nat.le_refl _)] at this)
            go_wp2
            go_ret
            exact ⟨by rw [hF.out]; rfl, hbw⟩
end
end Go.Proofs.Ytilopgfpifhccaa
/-
  The program's Constant.
-/
namespace Go.Proofs.Ytilopgfpifhccaa
section
set_option linter.unusedSimpArgs false
set_option linter.unusedVariables false
open Go.RowKit

set_option maxRecDepth 100000 in
set_option maxHeartbeats 8000000 in
theorem notco_any (t : Tm) (b : Bool) (w : World) (HC : ∀ W, Below w.heap.size w W → Calls Try.prog 14 #[t.agg] W (RetB W (.bool b))) :
    Calls Try.prog 30 #[t.agg] w (RetB w (.bool (!b))) := by
  have HC := Lib.hid HC
  obtain ⟨⟨k0, op0, no0, ⟨vk0, vi0, vs0⟩, of0, nm0, tb0, cl0⟩, A0, n0, c0, l0⟩ := t
  have hb0 : Below w.heap.size w (w.alloc (.cells #[.int .u8 k0, .string op0, .bool no0, .int .u8 vk0, .int .i64 vi0, .string vs0, .string of0, .string nm0, .int .i64 tb0, .int .i64 cl0, .slice A0 n0 c0] 26)) := ball (Below.refl _ _) _
  simp only [Tm.agg, TmH.agg, Tm.h, Tm.A, Tm.n, Tm.c] at HC ⊢
  go_enter Try.func30, Try.ntmps30
  go_wp2_with fail
  refine (HC.out _ hb0).mono ?_
  rintro e w1 ⟨rfl, hb1⟩
  go_wp2
  go_ret
  exact ⟨rfl, bto0 hb0 hb1⟩

set_option maxRecDepth 100000 in
set_option maxHeartbeats 8000000 in
theorem idx18_any (A : Option Addr) (n c : Nat) (l : List Tm) (q : Tm → Bool) (w : World) (hr : Reads w w.heap.size 11 A n (vT l)) (hn : n ≤ 1000) (HQ : ∀ t ∈ l, ∀ W, Below w.heap.size w W → Calls Try.prog 30 #[t.agg] W (RetB W (.bool (q t)))) :
    Calls Try.prog 48 #[.slice A n c, .func (.func 30) #[] #[]] w fun e w' => ∃ r : Int, e = .returned (.int .i64 r) ∧ (0 ≤ r ↔ l.any q = true) ∧ Below w.heap.size w w' := by
  have hl : l.length = n := by have := hr.1; rw [vT_len] at this; omega
  have nI : (n : Int) ≤ 1000 := by omega
  have Hl := Lib.hid hl
  have HQ := Lib.hid HQ
  clear hl hn
  go_enter Try.func48, Try.ntmps48
  go_wp2_with fail
  go_loopw [8] (fun v wr => ∃ k : Nat, k ≤ n ∧ v = .int .i64 k ∧ Below w.heap.size w wr ∧ (l.take k).any q = false) (fun v _ => n - (intOf v).toNat)
  case atStart => exact ⟨0, Nat.zero_le _, rfl, Below.refl _ _, rfl⟩
  case round =>
    obtain ⟨k, hk, rfl, hb, hany⟩ := hrel
    have q0 : (0 : Int) ≤ (k : Int) := by omega
    have Hany := Lib.hid hany
    clear hany
    by_cases hlt : k < n
    · have q1 : (k : Int) < (n : Int) := by omega
      obtain ⟨ad, v, rfl, hab, hv, hat⟩ := (hr.below hb).tm hlt
      have HC := Lib.hid (HQ.out v (List.mem_of_getElem? hv) wr hb)
      have hstep : (l.take (k + 1)).any q = ((l.take k).any q || q v) := any_take hv
      rw [Hany.out, Bool.false_or] at hstep
      have Hstep := Lib.hid hstep
      obtain ⟨b, hbv⟩ : ∃ b, q v = b := ⟨_, rfl⟩
      have hall : Hid (b = true → l.any q = true) := Lib.hid fun hbt => List.any_eq_true.2 ⟨v, List.mem_of_getElem? hv, by rw [hbv]; exact hbt⟩
      rw [hbv] at HC Hstep
      clear hv hstep hbv HQ hr
      obtain ⟨⟨k1, op1, no1, ⟨vk1, vi1, vs1⟩, of1, nm1, tb1, cl1⟩, A1, n1, c1, l1⟩ := v
      obtain ⟨y0, y1, y2, y3, y4, y5, y6, y7, y8, y9, y10⟩ := hat
      simp only [Tm.agg, TmH.agg, Tm.h, Tm.A, Tm.n, Tm.c] at HC y0 y1 y2 y3 y4 y5 y6 y7 y8 y9 y10
      go_wp2_with fail
      refine HC.out.mono ?_
      rintro e w1 ⟨rfl, hb1⟩
      cases b
      · go_wp2
        go_roundw
        case rel => exact ⟨k + 1, by omega, by go_num, bto0 hb hb1, Hstep.out⟩
        case measure => simp [intOf]; omega
      · go_wp2
        go_ret
        exact ⟨k, rfl, ⟨fun _ => hall.out (by first | trivial | rfl), fun _ => q0⟩, bto0 hb hb1⟩
    · obtain rfl : k = n := by omega
      have hF : Hid (l.any q = false) := Lib.hid (by have := Hany.out; rwa [List.take_of_length_le (by rw [Hl.out]; exact Nat.le_refl _)] at this)
      go_wp2
      go_ret
      exact ⟨-1, rfl, ⟨fun h => by omega, fun h => by rw [hF.out] at h; cases h⟩, hb⟩

set_option maxRecDepth 100000 in
set_option maxHeartbeats 8000000 in
theorem cont18_any (A : Option Addr) (n c : Nat) (l : List Tm) (q : Tm → Bool) (w : World) (hr : Reads w w.heap.size 11 A n (vT l)) (hn : n ≤ 1000) (HQ : ∀ t ∈ l, ∀ W, Below w.heap.size w W → Calls Try.prog 30 #[t.agg] W (RetB W (.bool (q t)))) :
    Calls Try.prog 29 #[.slice A n c, .func (.func 30) #[] #[]] w (RetB w (.bool (l.any q))) := by
  have H := Lib.hid (idx18_any A n c l q w hr hn HQ)
  clear HQ hr
  go_enter Try.func29, Try.ntmps29
  go_wp2_with fail
  refine H.out.mono ?_
  rintro e w1 ⟨r, rfl, hi, hb1⟩
  have Hi := Lib.hid hi
  clear hi
  by_cases h : 0 ≤ r
  · go_wp2
    go_ret
    exact ⟨by rw [Hi.out.1 h]; first | rfl | simp [h], hb1⟩
  · have e : l.any q = false := by
      cases ha : l.any q with
      | false => rfl
      | true => exact absurd (Hi.out.2 ha) h
    have E := Lib.hid e
    clear e
    go_wp2
    go_ret
    exact ⟨by rw [E.out]; first | rfl | simp [h], hb1⟩

set_option maxRecDepth 100000 in
set_option maxHeartbeats 8000000 in
theorem const18_any : ∀ (f : Nat) (t : Tm) (w : World), TmIn w w.heap.size t → shV f t → Calls Try.prog 14 #[t.agg] w (RetB w (.bool (coT f t))) := by
  intro f
  induction f with
  | zero => intro t w _ h; exact absurd h id
  | succ f ih =>
    intro t w hin hsh
    have hrd := hin.reads
    have hargs := hin.args
    obtain ⟨⟨k0, op0, no0, ⟨vk0, vi0, vs0⟩, of0, nm0, tb0, cl0⟩, A0, n0, c0, l0⟩ := t
    simp only [Tm.h, Tm.A, Tm.n, Tm.c, Tm.args] at hrd hargs
    obtain ⟨hn17, _, hsa⟩ := hsh
    have hb0 : Below w.heap.size w (w.alloc (.cells #[.int .u8 k0, .string op0, .bool no0, .int .u8 vk0, .int .i64 vi0, .string vs0, .string of0, .string nm0, .int .i64 tb0, .int .i64 cl0, .slice A0 n0 c0] 26)) := ball (Below.refl _ _) _
    have HC := Lib.hid (cont18_any A0 n0 c0 l0 (fun t => !coT f t) (w.alloc (.cells #[.int .u8 k0, .string op0, .bool no0, .int .u8 vk0, .int .i64 vi0, .string vs0, .string of0, .string nm0, .int .i64 tb0, .int .i64 cl0, .slice A0 n0 c0] 26)) ((hrd.below hb0).more hb0.size) (by omega) fun t ht W hW => notco_any t (coT f t) W fun W2 hW2 => ih t W2 (((hargs t ht).under (bto0 (bto0 hb0 hW) hW2)).more (bto0 (bto0 hb0 hW) hW2).size) (hsa t ht))
    have hx10 : (w.alloc (.cells #[.int .u8 k0, .string op0, .bool no0, .int .u8 vk0, .int .i64 vi0, .string vs0, .string of0, .string nm0, .int .i64 tb0, .int .i64 cl0, .slice A0 n0 c0] 26)).cell? ⟨w.heap.size, 10, none⟩ = some (.slice A0 n0 c0) := (Blk.new w 26 #[.int .u8 k0, .string op0, .bool no0, .int .u8 vk0, .int .i64 vi0, .string vs0, .string of0, .string nm0, .int .i64 tb0, .int .i64 cl0, .slice A0 n0 c0]).cell 10
    have hx0 : (w.alloc (.cells #[.int .u8 k0, .string op0, .bool no0, .int .u8 vk0, .int .i64 vi0, .string vs0, .string of0, .string nm0, .int .i64 tb0, .int .i64 cl0, .slice A0 n0 c0] 26)).cell? ⟨w.heap.size, 0, none⟩ = some (.int .u8 k0) := (Blk.new w 26 #[.int .u8 k0, .string op0, .bool no0, .int .u8 vk0, .int .i64 vi0, .string vs0, .string of0, .string nm0, .int .i64 tb0, .int .i64 cl0, .slice A0 n0 c0]).cell 0
    simp only [Tm.agg, TmH.agg, Tm.h, Tm.A, Tm.n, Tm.c]
    by_cases h2 : k0 = 2
    · subst h2
      clear hin ih hrd hargs hsa HC hx10 hx0
      rw [coT_succ, if_pos (.inl rfl)]
      go_enter Try.func14, Try.ntmps14
      go_wp2_with fail
      go_ret
      exact ⟨rfl, hb0⟩
    · by_cases h7 : k0 = 7
      · subst h7
        clear hin ih hrd hargs hsa HC hx10 hx0
        rw [coT_succ, if_pos (.inr rfl)]
        go_enter Try.func14, Try.ntmps14
        go_wp2_with fail
        go_ret
        exact ⟨rfl, hb0⟩
      · have e2 : (k0 != 2) = true := by simpa using h2
        have e7 : (k0 != 7) = true := by simpa using h7
        rw [coT_succ, if_neg (fun h => h.elim h2 h7)]
        have e : l0.all (coT f) = !(l0.any fun t => !coT f t) := by rw [List.not_any_eq_all_not]; simp
        rw [e]
        generalize (l0.any fun t => !coT f t) = b at HC
        clear hin ih hrd hargs hsa h2 h7 e
        go_enter Try.func14, Try.ntmps14
        go_wp2_with fail
        refine HC.out.mono ?_
        rintro e w1 ⟨rfl, hb1⟩
        go_wp2
        go_ret
        exact ⟨rfl, bto0 hb0 hb1⟩
end
end Go.Proofs.Ytilopgfpifhccaa
/-
  The program's Eval, Truth, Holds.
-/
namespace Go.Proofs.Ytilopgfpifhccaa
section
set_option linter.unusedSimpArgs false
set_option linter.unusedVariables false
open Go.RowKit

theorem eval_end {W : World} {R : Nat} {tm : Array Value} {Q : Ending → World → Prop} {o : Option Vl} (hR : Blk W R 23 #[.int .u8 (o.getD zV).k, .int .i64 (o.getD zV).i, .string (o.getD zV).s])
    (h4 : tm[6]? = some (.pointer (some ⟨R, 0, none⟩))) (h5 : tm[7]? = some (.bool o.isSome)) (h : Q (.returned (retO o)) W) :
    bodyPost Try.prog Try.f10 Q Exit.ret { tmps := tm, defers := [] } W := by
  have q0 : W.cell? ⟨R, 0, none⟩ = _ := hR.cell 0
  have q1 : W.cell? ⟨R, 1, none⟩ = _ := hR.cell 1
  have q2 : W.cell? ⟨R, 2, none⟩ = _ := hR.cell 2
  exact bodyPost_ret (v := retO o) (by simp [results, Try.results10, go_sem, h4, h5, q0, q1, q2, retO, Vl.agg]) rfl h

theorem OvO.new {w : World} {RA : Option Addr} {rn rc : Nat} {rws : List Rv} {TA : Option Addr} {tn tc : Nat} {tot : List Vl} {w' : World} {O : Nat} (he : EnvO w RA rn rws TA tn tot) (hb : Below w.heap.size w w') (hO : Blk w' O 50 #[.slice RA rn rc, .slice TA tn tc]) : OvO w' O RA rn rc rws TA tn tc tot :=
  ⟨hO.lt, hO.cell 0, hO.cell 1, he.below0 hb⟩

set_option maxRecDepth 100000 in
set_option maxHeartbeats 8000000 in
theorem eval18_any (RA : Option Addr) (rn rc : Nat) (rws : List Rv) (TA : Option Addr) (tn tc : Nat) (tot : List Vl) (f : Nat) (t : Tm) (w : World) (he : EnvO w RA rn rws TA tn tot) (hin : TmIn w w.heap.size t) (hs : shV f t) :
    Calls Try.prog 10 #[t.agg, .slice RA rn rc, .slice TA tn tc] w (RetB w (retO (evT (rws.map Rv.l) tot f t))) := by
  have HC := Lib.hid fun (O : Nat) (W : World) (hb : Below w.heap.size w W) (hO : Blk W O 50 #[.slice RA rn rc, .slice TA tn tc]) => val18_any O RA rn rc rws TA tn tc tot f t W (.new he hb hO) ((hin.under hb).more hb.size) hs
  generalize evT (rws.map Rv.l) tot f t = q at *
  clear he hin hs
  obtain ⟨⟨k0, op0, no0, ⟨vk0, vi0, vs0⟩, of0, nm0, tb0, cl0⟩, A0, n0, c0, l0⟩ := t
  simp only [Tm.agg, TmH.agg, Tm.h, Tm.A, Tm.n, Tm.c] at HC ⊢
  go_enter Try.func10, Try.ntmps10
  go_wp2_with fail
  refine (HC.out _ _ (by with_reducible repeat (first | exact Below.refl _ _ | refine ball ?_ _)) (Blk.newAt (by simp))).mono ?_
  rintro e w1 ⟨rfl, hb1⟩
  have hbw : Below w.heap.size w w1 := bto0 (by with_reducible repeat (first | exact Below.refl _ _ | refine ball ?_ _)) hb1
  have hB : Blk w1 (w.heap.size + 1) 23 #[.int .u8 0, .int .i64 0, .string ⟨#[]⟩] := blkOf hb1 (by simp) (by with_reducible repeat (first | exact Blk.newAt (by simp) | refine Blk.alloc ?_ _))
  have hB_0 : (w1).cell? ⟨w.heap.size + 1, 0, none⟩ = some (.int .u8 0) := hB.cell 0
  have hB_1 : (w1).cell? ⟨w.heap.size + 1, 1, none⟩ = some (.int .i64 0) := hB.cell 1
  have hB_2 : (w1).cell? ⟨w.heap.size + 1, 2, none⟩ = some (.string ⟨#[]⟩) := hB.cell 2
  have hz := hB.lt
  have f0 := hB.frozen 0
  have f1 := hB.frozen 1
  have f2 := hB.frozen 2
  cases q with
  | none =>
    simp only [retO, Option.getD, Option.isSome, zV, Vl.agg]
    go_wp2_with fail
    exact eval_end (R := w.heap.size + 1) (o := none) (by (with_reducible repeat (first | refine Blk.alloc ?_ _ | refine Blk.drew ?_)); exact blk3 hB) (by simp) (by simp) ⟨rfl, by with_reducible repeat (first | exact Below.refl _ _ | exact hbw | exact hbw2 | refine ball ?_ _ | refine bset ?_ (Nat.le_add_right _ _) _ | refine Below.drew ?_)⟩
  | some u =>
    obtain ⟨uk, ui, us⟩ := u
    simp only [retO, Option.getD, Option.isSome, Vl.agg]
    go_wp2_with fail
    exact eval_end (R := w.heap.size + 1) (o := (some ⟨uk, ui, us⟩)) (by (with_reducible repeat (first | refine Blk.alloc ?_ _ | refine Blk.drew ?_)); exact blk3 hB) (by simp) (by simp) ⟨rfl, by with_reducible repeat (first | exact Below.refl _ _ | exact hbw | exact hbw2 | refine ball ?_ _ | refine bset ?_ (Nat.le_add_right _ _) _ | refine Below.drew ?_)⟩

set_option maxRecDepth 100000 in
set_option maxHeartbeats 8000000 in
theorem truthP_any (RA : Option Addr) (rn rc : Nat) (rws : List Rv) (f : Nat) (t : Tm) (w : World) (he : EnvO w RA rn rws none 0 []) (hin : TmIn w w.heap.size t) (hs : shV f t) :
    Calls Try.prog 12 #[t.agg, .slice RA rn rc] w (RetB w (.int .u8 (truO (evT (rws.map Rv.l) [] f t)))) := by
  have HC := Lib.hid fun (O : Nat) (W : World) (hb : Below w.heap.size w W) (hO : Blk W O 50 #[.slice RA rn rc, .slice none 0 0]) => truth18_any O t (evT (rws.map Rv.l) [] f t) W fun W2 hW2 => val18_any O RA rn rc rws none 0 0 [] f t W2 ((OvO.new he hb hO).below0 hW2) ((hin.under (bto0 hb hW2)).more (bto0 hb hW2).size) hs
  generalize evT (rws.map Rv.l) [] f t = q at *
  clear he hin hs
  obtain ⟨⟨k0, op0, no0, ⟨vk0, vi0, vs0⟩, of0, nm0, tb0, cl0⟩, A0, n0, c0, l0⟩ := t
  simp only [Tm.agg, TmH.agg, Tm.h, Tm.A, Tm.n, Tm.c] at HC ⊢
  go_enter Try.func12, Try.ntmps12
  go_wp2_with fail
  refine (HC.out _ _ (by with_reducible repeat (first | exact Below.refl _ _ | refine ball ?_ _)) (Blk.newAt (by simp))).mono ?_
  rintro e w1 ⟨rfl, hb1⟩
  go_wp2_with fail
  go_ret
  exact ⟨rfl, bto0 (by with_reducible repeat (first | exact Below.refl _ _ | refine ball ?_ _)) hb1⟩

set_option maxRecDepth 100000 in
set_option maxHeartbeats 8000000 in
theorem holdsP_any (A : Option Addr) (n c : Nat) (l : List Tm) (RA : Option Addr) (rn rc : Nat) (rws : List Rv) (f : Nat) (w : World) (he : EnvO w RA rn rws none 0 []) (hrd : Reads w w.heap.size 11 A n (vT l)) (hn : n ≤ 1000) (hin : ∀ t ∈ l, TmIn w w.heap.size t) (hs : ∀ t ∈ l, shV f t) :
    Calls Try.prog 19 #[.slice A n c, .slice RA rn rc] w (RetB w (.int .u8 (andL (l.map fun t => truO (evT (rws.map Rv.l) [] f t))))) := by
  have HC := Lib.hid fun (O : Nat) (W : World) (hb : Below w.heap.size w W) (hO : Blk W O 50 #[.slice RA rn rc, .slice none 0 0]) => truths18_any O (evT (rws.map Rv.l) [] f) A n c l W ((hrd.below hb).more hb.size) hn fun t ht W2 hW2 => val18_any O RA rn rc rws none 0 0 [] f t W2 ((OvO.new he hb hO).below0 hW2) (((hin t ht).under (bto0 hb hW2)).more (bto0 hb hW2).size) (hs t ht)
  have hl : l.length = n := by have := hrd.1; rw [vT_len] at this; omega
  have hlm : (l.map fun t => truO (evT (rws.map Rv.l) [] f t)).length ≤ 1000 := by rw [List.length_map]; omega
  generalize (l.map fun t => truO (evT (rws.map Rv.l) [] f t)) = xs at *
  clear he hin hs hrd hl hn
  go_enter Try.func19, Try.ntmps19
  go_wp2_with fail
  refine (HC.out _ _ (by with_reducible repeat (first | exact Below.refl _ _ | refine ball ?_ _)) (Blk.newAt (by simp))).mono ?_
  rintro e w1 ⟨A1, c1, rfl, hr1, hb1⟩
  have HL := Lib.hid (and_any A1 xs.length c1 xs w1 w1.heap.size hr1 (by omega))
  clear hr1
  go_wp2_with fail
  refine HL.out.mono ?_
  rintro e w2 ⟨rfl, rfl⟩
  go_wp2_with fail
  go_ret
  exact ⟨rfl, bto0 (by with_reducible repeat (first | exact Below.refl _ _ | refine ball ?_ _)) hb1⟩
end
end Go.Proofs.Ytilopgfpifhccaa
/-
  The reference's value, sure, Truth, equal.
-/
namespace Go.Proofs.Ytilopgfpifhccaa
section
set_option linter.unusedSimpArgs false
set_option linter.unusedVariables false
open Go.RowKit

/-- What the reference gives of a term: a value, or that it is wrong. -/
@[reducible] def rV (v : Vl) (bad : Bool) : Value := .agg #[.int .u8 v.k, .int .i64 v.i, .string v.s, .bool bad]
def retR (o : Option Vl) : Value := rV (o.getD zV) o.isNone

set_option maxRecDepth 100000 in
set_option maxHeartbeats 4000000 in
theorem rvalue_any (t : Int) (w : World) : Calls Try.prog 25 #[.int .i64 t] w (RetB w (retR (valT t))) := by
  rcases (show t = 0 ∨ t = 1 ∨ t = 3 ∨ (t ≠ 0 ∧ t ≠ 1 ∧ t ≠ 3) by omega) with rfl | rfl | rfl | ⟨h0, h1, h3⟩
  · go_enter Try.func25, Try.ntmps25
    go_wp2_with fail
    exact bodyPost_ret (v := rV ⟨2, 0, ⟨#[]⟩⟩ false) (by simp [results, Try.results25, go_sem]) rfl ⟨rfl, by with_reducible repeat (first | exact Below.refl _ _ | refine ball ?_ _)⟩
  · go_enter Try.func25, Try.ntmps25
    go_wp2_with fail
    exact bodyPost_ret (v := rV ⟨0, 0, ⟨#[]⟩⟩ false) (by simp [results, Try.results25, go_sem]) rfl ⟨rfl, by with_reducible repeat (first | exact Below.refl _ _ | refine ball ?_ _)⟩
  · go_enter Try.func25, Try.ntmps25
    go_wp2_with fail
    exact bodyPost_ret (v := rV ⟨2, 1, ⟨#[]⟩⟩ false) (by simp [results, Try.results25, go_sem]) rfl ⟨rfl, by with_reducible repeat (first | exact Below.refl _ _ | refine ball ?_ _)⟩
  · have e : valT t = none := by unfold valT tok; simp [h0, h1, h3]
    have e0 : (t == 0) = false := by simpa using h0
    have e1 : (t == 1) = false := by simpa using h1
    have e3 : (t == 3) = false := by simpa using h3
    rw [e]
    go_enter Try.func25, Try.ntmps25
    go_wp2_with fail
    exact bodyPost_ret (v := rV ⟨0, 0, ⟨#[]⟩⟩ true) (by simp [results, Try.results25, go_sem]) rfl ⟨rfl, by with_reducible repeat (first | exact Below.refl _ _ | refine ball ?_ _)⟩

set_option maxRecDepth 100000 in
set_option maxHeartbeats 4000000 in
theorem rsure_any (v : Vl) (b : Bool) (w : World) : Calls Try.prog 42 #[v.agg, .bool b] w (RetB w (retR (if b then some v else none))) := by
  obtain ⟨vk, vi, vs⟩ := v
  cases b
  · go_enter Try.func42, Try.ntmps42
    go_wp2_with fail
    exact bodyPost_ret (v := rV ⟨0, 0, ⟨#[]⟩⟩ true) (by simp [results, Try.results42, go_sem]) rfl ⟨rfl, by with_reducible repeat (first | exact Below.refl _ _ | refine ball ?_ _)⟩
  · go_enter Try.func42, Try.ntmps42
    go_wp2_with fail
    exact bodyPost_ret (v := rV ⟨vk, vi, vs⟩ false) (by simp [results, Try.results42, go_sem]) rfl ⟨rfl, by with_reducible repeat (first | exact Below.refl _ _ | refine ball ?_ _)⟩

set_option maxRecDepth 100000 in
set_option maxHeartbeats 4000000 in
theorem rtruth_any (o : Option Vl) (w : World) : Calls Try.prog 13 #[retR o] w (RetB w (.int .i64 (truO o))) := by
  cases o with
  | none =>
    show Calls _ _ #[rV ⟨0, 0, ⟨#[]⟩⟩ true] _ (RetB w (.int .i64 2))
    go_enter Try.func13, Try.ntmps13
    go_wp2_with fail
    go_ret
    exact ⟨rfl, by with_reducible repeat (first | exact Below.refl _ _ | refine ball ?_ _)⟩
  | some v =>
    have HO := Lib.hid fun W => rof_any v W
    have e : truO (some v) = ofV v := rfl
    rw [e]
    obtain ⟨x, hx⟩ : ∃ x, ofV v = x := ⟨_, rfl⟩
    rw [hx] at HO ⊢
    clear hx e
    obtain ⟨vk, vi, vs⟩ := v
    show Calls _ _ #[rV ⟨vk, vi, vs⟩ false] _ _
    go_enter Try.func13, Try.ntmps13
    go_wp2_with fail
    refine (HO.out _).mono ?_
    rintro e w1 ⟨rfl, hb1⟩
    go_wp2_with fail
    go_ret
    exact ⟨rfl, bto0 (by with_reducible repeat (first | exact Below.refl _ _ | refine ball ?_ _)) hb1⟩

set_option maxRecDepth 100000 in
set_option maxHeartbeats 4000000 in
theorem requal_any (a b : Option Vl) (ha : okO a) (hb : okO b) (w : World) : Calls Try.prog 46 #[retR a, retR b] w (RetB w (.int .i64 (cmpO ⟨#[61]⟩ a b))) := by
  cases a with
  | none =>
    have e : cmpO ⟨#[61]⟩ none b = 2 := rfl
    rw [e]
    unfold retR
    obtain ⟨y, hy⟩ : ∃ y, b.getD zV = y := ⟨_, rfl⟩
    obtain ⟨q, hq⟩ : ∃ q, b.isNone = q := ⟨_, rfl⟩
    rw [hy, hq]
    obtain ⟨yk, yi, ys⟩ := y
    clear hy hq ha hb
    show Calls _ _ #[rV ⟨0, 0, ⟨#[]⟩⟩ true, _] _ _
    go_enter Try.func46, Try.ntmps46
    go_wp2_with fail
    go_ret
    exact ⟨rfl, by with_reducible repeat (first | exact Below.refl _ _ | refine ball ?_ _)⟩
  | some x =>
    cases b with
    | none =>
      have e : cmpO ⟨#[61]⟩ (some x) none = 2 := rfl
      rw [e]
      obtain ⟨xk, xi, xs⟩ := x
      clear ha hb
      show Calls _ _ #[rV ⟨xk, xi, xs⟩ false, rV ⟨0, 0, ⟨#[]⟩⟩ true] _ _
      go_enter Try.func46, Try.ntmps46
      go_wp2_with fail
      go_ret
      exact ⟨rfl, by with_reducible repeat (first | exact Below.refl _ _ | refine ball ?_ _)⟩
    | some y =>
      have HT := Lib.hid fun W => rtest_any ⟨#[61]⟩ x y W (ha x rfl).2 (hb y rfl).2
      have e : cmpO ⟨#[61]⟩ (some x) (some y) = testV ⟨#[61]⟩ x y := rfl
      rw [e]
      obtain ⟨r, hr⟩ : ∃ r, testV ⟨#[61]⟩ x y = r := ⟨_, rfl⟩
      rw [hr] at HT ⊢
      clear hr e ha hb
      obtain ⟨xk, xi, xs⟩ := x
      obtain ⟨yk, yi, ys⟩ := y
      show Calls _ _ #[rV ⟨xk, xi, xs⟩ false, rV ⟨yk, yi, ys⟩ false] _ _
      go_enter Try.func46, Try.ntmps46
      go_wp2_with fail
      refine (HT.out _).mono ?_
      rintro e w1 ⟨rfl, hb1⟩
      go_wp2_with fail
      go_ret
      exact ⟨rfl, bto0 (by with_reducible repeat (first | exact Below.refl _ _ | refine ball ?_ _)) hb1⟩
end
end Go.Proofs.Ytilopgfpifhccaa
