/-
  Split: the chapter's example.
-/
import Derived.Test.YtbmfojeklhbocaaTp
set_option linter.unusedSimpArgs false
set_option linter.unusedVariables false
namespace Go.Proofs.Ytbmfojeklhbocaa
open Go.RowKit

def tA : Tm := .mk ⟨2, ⟨#[]⟩, false, ⟨0, 0, ⟨#[]⟩⟩, ⟨#[]⟩, ⟨#[]⟩, 1, 2⟩ none 0 0 []
def tB : Tm := .mk ⟨2, ⟨#[]⟩, false, ⟨0, 0, ⟨#[]⟩⟩, ⟨#[]⟩, ⟨#[]⟩, 0, 0⟩ none 0 0 []
def tJ (g : Nat) : Tm := .mk ⟨4, ⟨#[61]⟩, false, ⟨0, 0, ⟨#[]⟩⟩, ⟨#[]⟩, ⟨#[]⟩, 0, 0⟩ (some ⟨g, 0, none⟩) 2 2 [tA, tB]
theorem leaf_in {w : World} {B : Nat} (h : TmH) (hok : h.ok) : TmIn w B (.mk h none 0 0 []) := .mk h none 0 0 [] hok (Nat.le_refl _) (by simp) Reads.none_ (by simp)
theorem tA_ok : (tA.h).ok := by refine ⟨by decide, by decide, ?_, by decide, by decide, by decide, by decide⟩; exact ⟨by decide, by decide, by decide⟩
theorem tB_ok : (tB.h).ok := by refine ⟨by decide, by decide, ?_, by decide, by decide, by decide, by decide⟩; exact ⟨by decide, by decide, by decide⟩
theorem tJ_ok (g : Nat) : ((tJ g).h).ok := by refine ⟨by show (0 : Int) ≤ 4 ∧ (4 : Int) ≤ 255; decide, by show (1 : Nat) ≤ maxLen; decide, ?_, by show (0 : Nat) ≤ maxLen; decide, by show (0 : Nat) ≤ maxLen; decide, by show _ ≤ (0 : Int) ∧ (0 : Int) ≤ _; decide, by show _ ≤ (0 : Int) ∧ (0 : Int) ≤ _; decide⟩; exact tA_ok.2.2.1
theorem tJ_us (g : Nat) : usT 3 (tJ g) = 3 := by
  simp [tJ, usT, tA, tB]
theorem tJ_sh (g : Nat) : shT 3 (tJ g) := by
  simp [tJ, shT, tA, tB]
theorem tJ_cl (g : Nat) : clT 3 2 (tJ g) = 1 := by
  unfold clT stN
  rw [tJ_us]
  decide
theorem tJ_jn (g : Nat) : jnT (tJ g) = some (0, 1, 0, 2) := by
  simp [tJ, jnT, tA, tB, Tm.h, jnH]
theorem tJ_js (g : Nat) : jsK (clT 3 2) [tJ g] 1 = [(0, 0, 1, 0, 2)] := by
  rw [jsK_succ (v := tJ g) rfl]
  unfold jsB
  rw [tJ_cl, tJ_jn]
  rfl
theorem tJ_many (g : Nat) : idxK (fun t => clT 3 2 t == 1) [tJ g] 1 = [0] := by
  rw [idxK_succ _ _ _ (tJ g) rfl, tJ_cl]
  rfl
theorem fixed_split (w : World) : Calls Try.prog 18 #[.slice (some ⟨w.heap.size + 1 + 1, 0, none⟩) 1 1, .int .i64 2] (((w.alloc (.cells #[.int .u8 2, .string ⟨#[]⟩, .bool false, .int .u8 0, .int .i64 0, .string ⟨#[]⟩, .string ⟨#[]⟩, .string ⟨#[]⟩, .int .i64 1, .int .i64 2, .slice none 0 0, .int .u8 2, .string ⟨#[]⟩, .bool false, .int .u8 0, .int .i64 0, .string ⟨#[]⟩, .string ⟨#[]⟩, .string ⟨#[]⟩, .int .i64 0, .int .i64 0, .slice none 0 0] 56)).alloc (.cells #[.int .u8 4, .string ⟨#[61]⟩, .bool false, .int .u8 0, .int .i64 0, .string ⟨#[]⟩, .string ⟨#[]⟩, .string ⟨#[]⟩, .int .i64 0, .int .i64 0, .slice (some ⟨w.heap.size, 0, none⟩) 2 2] 56)).alloc (.cells #[.int .u8 4, .string ⟨#[61]⟩, .bool false, .int .u8 0, .int .i64 0, .string ⟨#[]⟩, .string ⟨#[]⟩, .string ⟨#[]⟩, .int .i64 0, .int .i64 0, .slice (some ⟨w.heap.size, 0, none⟩) 2 2] 56)) (RetParts (((w.alloc (.cells #[.int .u8 2, .string ⟨#[]⟩, .bool false, .int .u8 0, .int .i64 0, .string ⟨#[]⟩, .string ⟨#[]⟩, .string ⟨#[]⟩, .int .i64 1, .int .i64 2, .slice none 0 0, .int .u8 2, .string ⟨#[]⟩, .bool false, .int .u8 0, .int .i64 0, .string ⟨#[]⟩, .string ⟨#[]⟩, .string ⟨#[]⟩, .int .i64 0, .int .i64 0, .slice none 0 0] 56)).alloc (.cells #[.int .u8 4, .string ⟨#[61]⟩, .bool false, .int .u8 0, .int .i64 0, .string ⟨#[]⟩, .string ⟨#[]⟩, .string ⟨#[]⟩, .int .i64 0, .int .i64 0, .slice (some ⟨w.heap.size, 0, none⟩) 2 2] 56)).alloc (.cells #[.int .u8 4, .string ⟨#[61]⟩, .bool false, .int .u8 0, .int .i64 0, .string ⟨#[]⟩, .string ⟨#[]⟩, .string ⟨#[]⟩, .int .i64 0, .int .i64 0, .slice (some ⟨w.heap.size, 0, none⟩) 2 2] 56)) 2 (prt (clT 3 2) 2 [tJ w.heap.size] 1) [(0, 0, 1, 0, 2)]) := by
  have hr1 : Reads (((w.alloc (.cells #[.int .u8 2, .string ⟨#[]⟩, .bool false, .int .u8 0, .int .i64 0, .string ⟨#[]⟩, .string ⟨#[]⟩, .string ⟨#[]⟩, .int .i64 1, .int .i64 2, .slice none 0 0, .int .u8 2, .string ⟨#[]⟩, .bool false, .int .u8 0, .int .i64 0, .string ⟨#[]⟩, .string ⟨#[]⟩, .string ⟨#[]⟩, .int .i64 0, .int .i64 0, .slice none 0 0] 56)).alloc (.cells #[.int .u8 4, .string ⟨#[61]⟩, .bool false, .int .u8 0, .int .i64 0, .string ⟨#[]⟩, .string ⟨#[]⟩, .string ⟨#[]⟩, .int .i64 0, .int .i64 0, .slice (some ⟨w.heap.size, 0, none⟩) 2 2] 56)).alloc (.cells #[.int .u8 4, .string ⟨#[61]⟩, .bool false, .int .u8 0, .int .i64 0, .string ⟨#[]⟩, .string ⟨#[]⟩, .string ⟨#[]⟩, .int .i64 0, .int .i64 0, .slice (some ⟨w.heap.size, 0, none⟩) 2 2] 56)) (((w.alloc (.cells #[.int .u8 2, .string ⟨#[]⟩, .bool false, .int .u8 0, .int .i64 0, .string ⟨#[]⟩, .string ⟨#[]⟩, .string ⟨#[]⟩, .int .i64 1, .int .i64 2, .slice none 0 0, .int .u8 2, .string ⟨#[]⟩, .bool false, .int .u8 0, .int .i64 0, .string ⟨#[]⟩, .string ⟨#[]⟩, .string ⟨#[]⟩, .int .i64 0, .int .i64 0, .slice none 0 0] 56)).alloc (.cells #[.int .u8 4, .string ⟨#[61]⟩, .bool false, .int .u8 0, .int .i64 0, .string ⟨#[]⟩, .string ⟨#[]⟩, .string ⟨#[]⟩, .int .i64 0, .int .i64 0, .slice (some ⟨w.heap.size, 0, none⟩) 2 2] 56)).alloc (.cells #[.int .u8 4, .string ⟨#[61]⟩, .bool false, .int .u8 0, .int .i64 0, .string ⟨#[]⟩, .string ⟨#[]⟩, .string ⟨#[]⟩, .int .i64 0, .int .i64 0, .slice (some ⟨w.heap.size, 0, none⟩) 2 2] 56)).heap.size 11 (some ⟨w.heap.size, 0, none⟩) 2 (vT [tA, tB]) := by
    have h := reads_at w #[.int .u8 2, .string ⟨#[]⟩, .bool false, .int .u8 0, .int .i64 0, .string ⟨#[]⟩, .string ⟨#[]⟩, .string ⟨#[]⟩, .int .i64 1, .int .i64 2, .slice none 0 0, .int .u8 2, .string ⟨#[]⟩, .bool false, .int .u8 0, .int .i64 0, .string ⟨#[]⟩, .string ⟨#[]⟩, .string ⟨#[]⟩, .int .i64 0, .int .i64 0, .slice none 0 0] 56 (size := 11) (n := 2) (g := w.heap.size) rfl (xs := vT [tA, tB]) rfl rfl
    exact (((h.alloc (by simp) _).alloc (by simp) _).more (by simp))
  have hr2 : Reads (((w.alloc (.cells #[.int .u8 2, .string ⟨#[]⟩, .bool false, .int .u8 0, .int .i64 0, .string ⟨#[]⟩, .string ⟨#[]⟩, .string ⟨#[]⟩, .int .i64 1, .int .i64 2, .slice none 0 0, .int .u8 2, .string ⟨#[]⟩, .bool false, .int .u8 0, .int .i64 0, .string ⟨#[]⟩, .string ⟨#[]⟩, .string ⟨#[]⟩, .int .i64 0, .int .i64 0, .slice none 0 0] 56)).alloc (.cells #[.int .u8 4, .string ⟨#[61]⟩, .bool false, .int .u8 0, .int .i64 0, .string ⟨#[]⟩, .string ⟨#[]⟩, .string ⟨#[]⟩, .int .i64 0, .int .i64 0, .slice (some ⟨w.heap.size, 0, none⟩) 2 2] 56)).alloc (.cells #[.int .u8 4, .string ⟨#[61]⟩, .bool false, .int .u8 0, .int .i64 0, .string ⟨#[]⟩, .string ⟨#[]⟩, .string ⟨#[]⟩, .int .i64 0, .int .i64 0, .slice (some ⟨w.heap.size, 0, none⟩) 2 2] 56)) (((w.alloc (.cells #[.int .u8 2, .string ⟨#[]⟩, .bool false, .int .u8 0, .int .i64 0, .string ⟨#[]⟩, .string ⟨#[]⟩, .string ⟨#[]⟩, .int .i64 1, .int .i64 2, .slice none 0 0, .int .u8 2, .string ⟨#[]⟩, .bool false, .int .u8 0, .int .i64 0, .string ⟨#[]⟩, .string ⟨#[]⟩, .string ⟨#[]⟩, .int .i64 0, .int .i64 0, .slice none 0 0] 56)).alloc (.cells #[.int .u8 4, .string ⟨#[61]⟩, .bool false, .int .u8 0, .int .i64 0, .string ⟨#[]⟩, .string ⟨#[]⟩, .string ⟨#[]⟩, .int .i64 0, .int .i64 0, .slice (some ⟨w.heap.size, 0, none⟩) 2 2] 56)).alloc (.cells #[.int .u8 4, .string ⟨#[61]⟩, .bool false, .int .u8 0, .int .i64 0, .string ⟨#[]⟩, .string ⟨#[]⟩, .string ⟨#[]⟩, .int .i64 0, .int .i64 0, .slice (some ⟨w.heap.size, 0, none⟩) 2 2] 56)).heap.size 11 (some ⟨w.heap.size + 1 + 1, 0, none⟩) 1 (vT [tJ w.heap.size]) := by
    have h := reads_at ((w.alloc (.cells #[.int .u8 2, .string ⟨#[]⟩, .bool false, .int .u8 0, .int .i64 0, .string ⟨#[]⟩, .string ⟨#[]⟩, .string ⟨#[]⟩, .int .i64 1, .int .i64 2, .slice none 0 0, .int .u8 2, .string ⟨#[]⟩, .bool false, .int .u8 0, .int .i64 0, .string ⟨#[]⟩, .string ⟨#[]⟩, .string ⟨#[]⟩, .int .i64 0, .int .i64 0, .slice none 0 0] 56)).alloc (.cells #[.int .u8 4, .string ⟨#[61]⟩, .bool false, .int .u8 0, .int .i64 0, .string ⟨#[]⟩, .string ⟨#[]⟩, .string ⟨#[]⟩, .int .i64 0, .int .i64 0, .slice (some ⟨w.heap.size, 0, none⟩) 2 2] 56)) #[.int .u8 4, .string ⟨#[61]⟩, .bool false, .int .u8 0, .int .i64 0, .string ⟨#[]⟩, .string ⟨#[]⟩, .string ⟨#[]⟩, .int .i64 0, .int .i64 0, .slice (some ⟨w.heap.size, 0, none⟩) 2 2] 56 (size := 11) (n := 1) (g := w.heap.size + 1 + 1) (by simp) (xs := vT [tJ w.heap.size]) rfl rfl
    exact h.more (by simp)
  have h := split_any 3 (some ⟨w.heap.size + 1 + 1, 0, none⟩) 1 1 [tJ w.heap.size] 2 _ hr2 (by
    intro t ht
    rw [List.mem_singleton] at ht
    subst ht
    refine .mk _ _ 2 2 _ (tJ_ok 0) (by omega) (by decide) hr1 ?_
    intro a ha
    simp only [List.mem_cons, List.not_mem_nil, or_false] at ha
    rcases ha with rfl | rfl
    · exact leaf_in _ tA_ok
    · exact leaf_in _ tB_ok) (by
    intro t ht
    rw [List.mem_singleton] at ht
    subst ht
    exact tJ_sh _) (by omega)
  have e : bnd 2 = 2 := by decide
  rw [e, tJ_js] at h
  exact h
set_option maxRecDepth 100000 in
set_option maxHeartbeats 8000000 in
theorem fixed19_any (w : World) : Calls Try.prog 17 #[] w (RetB w (.bool true)) := by
  have P1 := Lib.hid (fixed_split w)
  have hB0 : Hid (Below w.heap.size w (((w.alloc (.cells #[.int .u8 2, .string ⟨#[]⟩, .bool false, .int .u8 0, .int .i64 0, .string ⟨#[]⟩, .string ⟨#[]⟩, .string ⟨#[]⟩, .int .i64 1, .int .i64 2, .slice none 0 0, .int .u8 2, .string ⟨#[]⟩, .bool false, .int .u8 0, .int .i64 0, .string ⟨#[]⟩, .string ⟨#[]⟩, .string ⟨#[]⟩, .int .i64 0, .int .i64 0, .slice none 0 0] 56)).alloc (.cells #[.int .u8 4, .string ⟨#[61]⟩, .bool false, .int .u8 0, .int .i64 0, .string ⟨#[]⟩, .string ⟨#[]⟩, .string ⟨#[]⟩, .int .i64 0, .int .i64 0, .slice (some ⟨w.heap.size, 0, none⟩) 2 2] 56)).alloc (.cells #[.int .u8 4, .string ⟨#[61]⟩, .bool false, .int .u8 0, .int .i64 0, .string ⟨#[]⟩, .string ⟨#[]⟩, .string ⟨#[]⟩, .int .i64 0, .int .i64 0, .slice (some ⟨w.heap.size, 0, none⟩) 2 2] 56))) := Lib.hid (ball (ball (ball (Below.refl _ _) _) _) _)
  have AL := Lib.hid fun W => all_any 3 W
  go_enter Try.func17, Try.ntmps17
  go_wp2_with fail
  refine P1.out.mono ?_
  intro e w1 hret
  obtain ⟨gL, AN, cN, iN, AM, cM, iM, rl, AJ, cJ, rfl, hp, hps, hb⟩ := hret.reads
  have hiM : iM = [0] := by
    have h : (prt (clT 3 2) 2 [tJ w.heap.size] 1)[1]? = some iM := by rw [← hps]; rfl
    rw [prt_at _ _ _ _ _ (by omega), tJ_many] at h
    injection h with h
    exact h.symm
  subst hiM
  have hb1 := bto0 hB0.out hb
  obtain ⟨ad, x, rfl, hab, hx, d0, d1, d2, d3, d4⟩ := hp.rJ.jn (k := 0) (by simp)
  simp only [List.getElem?_cons_zero, Option.some.injEq] at hx
  subst hx
  have e0 : ad.add (0 * 5) = ad := by simp [Addr.add]
  rw [e0] at d0 d1 d2 d3 d4
  simp only at d0 d1 d2 d3 d4
  clear hret hp hps hB0 P1 e0
  simp only [pvV, List.length_cons, List.length_nil]
  have e7 : (2 ^ bnd 3 - 1 : Nat) = 7 := by decide
  rw [e7] at AL
  clear hb
  go_wp2_with fail
  refine (AL.out _).mono ?_
  rintro e w2 ⟨rfl, hw2⟩
  subst hw2
  go_wp2
  go_ret
  exact ⟨rfl, ball hb1 _⟩

set_option maxHeartbeats 4000000 in
/-- SplitReady. -/
theorem splitReady_any (A : Option Addr) (n c : Nat) (l : List Tm) (had now : Nat) (hh : had < 4294967296) (hn2 : now < 4294967296) (w : World) (hr : Reads w w.heap.size 11 A n (vT l)) (hin : ∀ t ∈ l, TmIn w w.heap.size t) (hn : n ≤ maxLen) :
    Calls Try.prog 8 #[.slice A n c, .int .u32 had, .int .u32 now] w (RetB w (.bool true)) := by
  have hl : l.length = n := by have := hr.1; rw [vT_len] at this; omega
  have G := Lib.hid (greatL_any A n c l w hr hin hn)
  have FX := Lib.hid fun W => fixed19_any W
  cases hgr : grTL l with
  | true =>
    rw [hgr] at G
    clear hr hin hgr
    go_enter Try.func8, Try.ntmps8
    go_wp2_with fail
    refine G.out.mono ?_
    rintro e w1 ⟨rfl, hb1⟩
    go_wp2_with fail
    refine (FX.out _).mono ?_
    rintro e w2 ⟨rfl, hb2⟩
    go_wp2
    go_ret
    exact ⟨rfl, bto0 hb1 hb2⟩
  | false =>
    rw [hgr] at G
    unfold grTL at hgr
    rw [Bool.or_eq_false_iff] at hgr
    have hn40 : n ≤ 40 := by have := hgr.1; simp at this; omega
    have hg : ∀ t ∈ l, grT 21 20 t = false := by
      intro t ht
      have := hgr.2
      rw [List.any_eq_false] at this
      simpa using this t ht
    have R1 := Lib.hid fun (W : World) (hb : Below w.heap.size w W) => ready_any 21 A n c l had now hh hn2 W ((hr.below hb).more hb.size) (fun t ht => ((hin t ht).under hb).more hb.size) (fun t ht => shT_of 21 20 t (hg t ht)) (by omega)
    have R2 := Lib.hid fun (W : World) (hb : Below w.heap.size w W) => rready_any 21 20 A n c l had now hh hn2 (by omega) W ((hr.below hb).more hb.size) (fun t ht => ((hin t ht).under hb).more hb.size) (fun t ht => hg t ht) (by omega)
    have hsame : idxK (fun t => rdyB (usT 21 t) had now) l n = idxK (fun t => rrdyB (usL 21 t 32) had now) l n := by
      have : (fun t => rdyB (usT 21 t) had now) = (fun t => rrdyB (usL 21 t 32) had now) := funext fun t => ready_same 21 t had now hh hn2
      rw [this]
    rw [← hsame] at R2
    have hlen := idxK_len (fun t => rdyB (usT 21 t) had now) l n
    obtain ⟨I, hI⟩ : ∃ I, idxK (fun t => rdyB (usT 21 t) had now) l n = I := ⟨_, rfl⟩
    rw [hI] at R1 R2 hlen
    clear hr hin hgr hg hsame hI
    go_enter Try.func8, Try.ntmps8
    go_wp2_with fail
    refine G.out.mono ?_
    rintro e w1 ⟨rfl, hb1⟩
    go_wp2_with fail
    refine (FX.out _).mono ?_
    rintro e w2 ⟨rfl, hb2⟩
    have hb02 := bto0 hb1 hb2
    go_wp2_with fail
    refine (R1.out _ hb02).mono ?_
    rintro e w3 ⟨A3, c3, rfl, hc3, own3, hb3⟩
    have hr3 := Reads.of_own own3
    have hb03 := bto0 hb02 hb3
    go_wp2_with fail
    refine (R2.out _ hb03).mono ?_
    rintro e w4 ⟨A4, c4, rfl, hc4, own4, hb4⟩
    have hr4 := Reads.of_own own4
    have hr34 := (hr3.below hb4).more hb4.size
    have hb04 := bto0 hb03 hb4
    go_wp2_with fail
    refine (sameI_any A3 I.length c3 A4 c4 I _ hr34 hr4 (by omega)).mono ?_
    rintro e w5 ⟨rfl, hb5⟩
    go_wp2
    go_ret
    exact ⟨rfl, bto0 hb04 hb5⟩
end Go.Proofs.Ytbmfojeklhbocaa
