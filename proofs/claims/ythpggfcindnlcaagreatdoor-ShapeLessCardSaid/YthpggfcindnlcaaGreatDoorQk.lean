
/-
  ShapeLess: the program's compare.
-/
import Derived.Test.YthpggfcindnlcaaGreatDoorQj
import Derived.Test.YthpggfcindnlcaaGreatDoorQp
import Derived.Deep.RegionHeld3
set_option linter.unusedSimpArgs false
set_option linter.unusedVariables false
namespace Go.Proofs.YthpggfcindnlcaaGreatDoor
open Go.RowKit

/-- A region's states, by how much is left. -/
theorem wpAnyH_ind {P : Program} {md : Region.Mode} {ops : Array Oper} {Q : Exit → Act → World → Prop} {S : World → Prop} (T : Nat → Nat → Array Bool → Act → World → Prop)
    (step : ∀ n fuel L a W, (∀ m, m < n → ∀ fuel' L' a' W', T m fuel' L' a' W' → wpAnyH P md ops Q S fuel' L' a' W') → T n fuel L a W → wpAnyH P md ops Q S fuel L a W) :
    ∀ n fuel L a W, T n fuel L a W → wpAnyH P md ops Q S fuel L a W := by
  intro n
  induction n using Nat.strongRecOn with
  | _ n ih => exact fun fuel L a W h => step n fuel L a W (fun m hm => ih m hm) h
theorem Tryz.infoVk : (Tryz.prog.info? 26).map (fun i => (i.zero, i.size, i.bytes)) = some (some (.agg #[.int .u8 0, .int .i64 0, .string ⟨#[]⟩]), 3, 32) := by kernel_rfl
theorem Tryz.infoBk : (Tryz.prog.info? 4).map (fun i => (i.zero, i.size, i.bytes)) = some (some (.bool false), 1, 1) := by kernel_rfl
/-- Three rows of the call's own, side by side. -/
structure R3 (w0 w : World) (v1 v2 v3 : Value) (m1 m2 m3 : Nat) (l1 l2 : List Vl) (l3 : List Bool) : Prop where
  o1 : w.ownsRow w0.heap.size 26 3 v1 m1 (vV l1)
  o2 : w.ownsRow w0.heap.size 26 3 v2 m2 (vV l2)
  o3 : w.ownsRow w0.heap.size 4 1 v3 m3 (l3.map Value.bool)
  ne : ∀ g, v1.ownBlock = some g → v2.ownBlock ≠ some g
  hb : Below w0.heap.size w0 w
section
variable {w0 w w' : World} {v1 v2 v3 v' : Value} {m1 m2 m3 : Nat} {l1 l2 : List Vl} {l3 : List Bool}
theorem kept3 {e e1 : TypeId} {b1 b2 s1 s2 n1 n2 : Nat} {x y : Value} {xs ys : List Value} (h : w.ownsRow b1 e1 s1 x n1 xs) (h2 : w.ownsRow b2 e s2 y n2 ys) (hg : w.grownBy w' x.ownBlock) (hne : e1 ≠ e ∨ ∀ g, x.ownBlock = some g → y.ownBlock ≠ some g) : w'.ownsRow b2 e s2 y n2 ys := by
  refine h2.kept hg ?_
  rcases h2.2 with ⟨rfl, _⟩ | ⟨g, cap, cur, rfl, _, hh, _⟩
  · exact .inl rfl
  · refine .inr fun e' => ?_
    rcases hne with hne | hne
    · exact own_blk_ne h hh hne e'.symm
    · exact hne g e'.symm rfl
theorem R3.push1 (h : R3 w0 w v1 v2 v3 m1 m2 m3 l1 l2 l3) (u : Vl) (own : w'.ownsRow w0.heap.size 26 3 v' (m1 + 1) (vV l1 ++ [.int .u8 u.k, .int .i64 u.i, .string u.s])) (hg : w.grownBy w' v1.ownBlock) (ho : v'.ownBlock = v1.ownBlock ∨ v'.ownBlock = some w.heap.size) : R3 w0 w' v' v2 v3 (m1 + 1) m2 m3 (l1 ++ [u]) l2 l3 := by
  refine ⟨by simpa [vV, Vl.cells] using own, kept3 h.o1 h.o2 hg (.inr h.ne), kept3 h.o1 h.o3 hg (.inl (by decide)), fun g e e2 => ?_, h.hb.grown hg h.hb.size fun k e => (World.ownsRow.lt h.o1 k e).1⟩
  rcases ho with ho | ho
  · rw [ho] at e; exact h.ne g e e2
  · rw [ho] at e
    have := (World.ownsRow.lt h.o2 g e2).2
    injection e with e
    omega
theorem R3.push2 (h : R3 w0 w v1 v2 v3 m1 m2 m3 l1 l2 l3) (u : Vl) (own : w'.ownsRow w0.heap.size 26 3 v' (m2 + 1) (vV l2 ++ [.int .u8 u.k, .int .i64 u.i, .string u.s])) (hg : w.grownBy w' v2.ownBlock) (ho : v'.ownBlock = v2.ownBlock ∨ v'.ownBlock = some w.heap.size) : R3 w0 w' v1 v' v3 m1 (m2 + 1) m3 l1 (l2 ++ [u]) l3 := by
  refine ⟨kept3 h.o2 h.o1 hg (.inr fun g e e2 => h.ne g e2 e), by simpa [vV, Vl.cells] using own, kept3 h.o2 h.o3 hg (.inl (by decide)), fun g e e2 => ?_, h.hb.grown hg h.hb.size fun k e => (World.ownsRow.lt h.o2 k e).1⟩
  rcases ho with ho | ho
  · rw [ho] at e2; exact h.ne g e e2
  · rw [ho] at e2
    have := (World.ownsRow.lt h.o1 g e).2
    injection e2 with e2
    omega
theorem R3.push3 (h : R3 w0 w v1 v2 v3 m1 m2 m3 l1 l2 l3) (b : Bool) (own : w'.ownsRow w0.heap.size 4 1 v' (m3 + 1) (l3.map Value.bool ++ [.bool b])) (hg : w.grownBy w' v3.ownBlock) : R3 w0 w' v1 v2 v' m1 m2 (m3 + 1) l1 l2 (l3 ++ [b]) :=
  ⟨kept3 h.o3 h.o1 hg (.inl (by decide)), kept3 h.o3 h.o2 hg (.inl (by decide)), by simpa using own, h.ne, h.hb.grown hg h.hb.size fun k e => (World.ownsRow.lt h.o3 k e).1⟩
theorem R3.alloc (h : R3 w0 w v1 v2 v3 m1 m2 m3 l1 l2 l3) (o : Obj) : R3 w0 (w.alloc o) v1 v2 v3 m1 m2 m3 l1 l2 l3 := ⟨h.o1.alloc o, h.o2.alloc o, h.o3.alloc o, h.ne, ball h.hb o⟩
theorem R3.drew (h : R3 w0 w v1 v2 v3 m1 m2 m3 l1 l2 l3) : R3 w0 w.drew v1 v2 v3 m1 m2 m3 l1 l2 l3 := ⟨h.o1.drew, h.o2.drew, h.o3.drew, h.ne, h.hb.drew⟩
theorem rows_old (h : R3 w0 w v1 v2 v3 m1 m2 m3 l1 l2 l3) : (∀ g, v1.ownBlock = some g → g < w.heap.size) ∧ (∀ g, v2.ownBlock = some g → g < w.heap.size) ∧ (∀ g, v3.ownBlock = some g → g < w.heap.size) :=
  ⟨fun g e => (World.ownsRow.lt h.o1 g e).2, fun g e => (World.ownsRow.lt h.o2 g e).2, fun g e => (World.ownsRow.lt h.o3 g e).2⟩
end
set_option maxRecDepth 100000 in
set_option maxHeartbeats 16000000 in
theorem compare28_any {w : World} {Ak Aa Ab : Option Addr} {nk ck na ca nb cb : Nat} {ks : List Ky} {a b : List Vl} (hk : Reads w w.heap.size 3 Ak nk (vKy ks)) (ha : Reads w w.heap.size 3 Aa na (vV a)) (hb : Reads w w.heap.size 3 Ab nb (vV b)) (hnk : nk ≤ 1000) (hna : na ≤ 10000) (hnb : nb ≤ 10000)
    (hks : ∀ x ∈ ks, -9223372036854775808 ≤ x.i ∧ x.i ≤ 9223372036854775807) :
    Calls Tryz.prog 21 #[.agg (ordQ Ak nk ck), .slice Aa na ca, .slice Ab nb cb] w (RetB w (.int .i64 (rowsV (selL na nb a ks) (selL na nb b ks) (selD na nb ks)))) := by
  have hl : ks.length = nk := by have := hk.1; rw [vKy_len] at this; omega
  have nI : (nk : Int) ≤ 1000 := by omega
  have naI : (na : Int) ≤ 10000 := by omega
  have nbI : (nb : Int) ≤ 10000 := by omega
  obtain ⟨i0, hi0, hz0, hs0, hy0⟩ := int_info8 Tryz.infoVk
  obtain ⟨i1, hi1, hz1, hs1, hy1⟩ := int_info8 Tryz.infoBk
  have HL := Lib.hid (And.intro hl hks)
  have K0 := Blk.new w 36 (ordQ Ak nk ck)
  have b0 := ball (Below.refl w.heap.size w) (.cells (ordQ Ak nk ck) 36)
  obtain ⟨W0, hW0⟩ : ∃ W0, w.alloc (.cells (ordQ Ak nk ck) 36) = W0 := ⟨_, rfl⟩
  have hWL : w.alloc (.cells #[.bool false, .slice none 0 0, .slice none 0 0, .slice none 0 0, .slice none 0 0, .slice none 0 0, .bool false, .slice none 0 0, .slice none 0 0, .slice Ak nk ck, .int .i64 0] 36) = W0 := hW0
  rw [hW0] at K0 b0
  have k9 : W0.cell? ⟨w.heap.size, 9, none⟩ = some (.slice Ak nk ck) := K0.cell 9
  have H0 := Lib.hid (And.intro K0 b0)
  clear K0 b0 hW0 hl hks
  go_enter Tryz.func21, Tryz.ntmps21
  go_wp2_with fail
  clear hWL k9
  go_loopw [7, 8, 9, 11, 12, 16] (fun u7 u8 u9 u11 u12 u16 wr => ∃ k : Nat, u16 = .int .i64 k ∧ k ≤ nk ∧ R3 W0 wr u7 u8 u9 (selL na nb a (ks.take k)).length (selL na nb b (ks.take k)).length (selD na nb (ks.take k)).length (selL na nb a (ks.take k)) (selL na nb b (ks.take k)) (selD na nb (ks.take k))) (fun _ _ _ _ _ u16 _ => nk - (intOf u16).toNat)
  case atStart => exact ⟨0, rfl, by omega, ⟨World.ownsRow_nil _ _ _ _, World.ownsRow_nil _ _ _ _, World.ownsRow_nil _ _ _ _, (fun g h => by cases h), Below.refl _ _⟩⟩
  case round =>
    obtain ⟨wo, rfl⟩ : ∃ wo : World, wo = wr := ⟨_, rfl⟩
    obtain ⟨k, rfl, hkk, r3⟩ := hrel
    have q0 : (0 : Int) ≤ (k : Int) := by omega
    have bw := bto0 H0.out.2 r3.hb
    by_cases hlt : k < nk
    · have q1 : (k : Int) < (nk : Int) := by omega
      obtain ⟨ad, x, rfl, had, hx, x0, x1, x2⟩ := (hk.below bw).ky hlt
      have hrg := HL.out.2 x (List.mem_of_getElem? hx)
      have hz := bw.size
      have g1 : ad.block < wo.heap.size := by omega
      have sL1 := selL_snoc na nb a (ks.take k) x
      have sL2 := selL_snoc na nb b (ks.take k) x
      have sD := selD_snoc na nb (ks.take k) x
      have etk : ks.take k ++ [x] = ks.take (k + 1) := by rw [List.take_add_one, hx]; rfl
      rw [etk] at sL1 sL2 sD
      have AL : Hid (∀ o : Obj, R3 W0 (wo.alloc o) u7 u8 u9 (selL na nb a (ks.take k)).length (selL na nb b (ks.take k)).length (selD na nb (ks.take k)).length (selL na nb a (ks.take k)) (selL na nb b (ks.take k)) (selD na nb (ks.take k))) := Lib.hid fun o => ⟨r3.o1.alloc o, r3.o2.alloc o, r3.o3.alloc o, r3.ne, ball r3.hb o⟩
      have AL2 := Lib.hid r3
      have HQ := Lib.hid (And.intro sL1 (And.intro sL2 (And.intro sD (And.intro bw hx))))
      clear sL1 sL2 sD r3 bw hx etk
      cases hok : okK na nb x
      · have hok2 := hok
        unfold okK at hok2
        simp only [decide_eq_false_iff_not] at hok2
        have z1 : selL na nb a (ks.take (k + 1)) = selL na nb a (ks.take k) := by rw [HQ.out.1, hok]; simp
        have z2 : selL na nb b (ks.take (k + 1)) = selL na nb b (ks.take k) := by rw [HQ.out.2.1, hok]; simp
        have z3 : selD na nb (ks.take (k + 1)) = selD na nb (ks.take k) := by rw [HQ.out.2.2.1, hok]; simp
        have HZ := Lib.hid (And.intro z1 (And.intro z2 z3))
        clear z1 z2 z3 hok
        obtain ⟨T, hT⟩ : ∃ T, IntKind.i64.wrap (x.i - 1) = T := ⟨_, rfl⟩
        have hn : ¬ (0 ≤ T ∧ T < min (na : Int) (nb : Int)) := by
          rintro ⟨h1, h2⟩
          rw [← hT] at h1 h2
          simp only [IntKind.wrap, IntKind.signed, IntKind.bits] at h1 h2
          simp at h1 h2
          omega
        have hTb : -9223372036854775808 ≤ T ∧ T ≤ 9223372036854775807 := by
          rw [← hT]
          simp only [IntKind.wrap, IntKind.signed, IntKind.bits]
          simp
          omega
        have r1 := AL.out (.cells #[.string x.s, .int .i64 x.i, .bool x.d] 62)
        have HR := Lib.hid r1
        clear r1 hrg hok2
        by_cases h0 : 0 ≤ T
        · have h1 : ¬ T < min (na : Int) (nb : Int) := fun h => hn ⟨h0, h⟩
          clear hn hTb
          go_wp2
          refine ⟨⟨k + 1, by go_num, by omega, ?_⟩, by simp [intOf]; omega⟩
          rw [HZ.out.1, HZ.out.2.1, HZ.out.2.2]
          exact HR.out
        · clear hn hTb
          go_wp2
          refine ⟨⟨k + 1, by go_num, by omega, ?_⟩, by simp [intOf]; omega⟩
          rw [HZ.out.1, HZ.out.2.1, HZ.out.2.2]
          exact HR.out
      · unfold okK at hok
        simp only [decide_eq_true_eq] at hok
        obtain ⟨xs, xi, xd⟩ := x
        dsimp only at hok hrg x0 x1 x2
        obtain ⟨j, rfl⟩ : ∃ j : Nat, xi = (j : Int) + 1 := ⟨(xi - 1).toNat, by omega⟩
        have j0 : (0 : Int) ≤ (j : Int) := by omega
        have ja : (j : Int) < (na : Int) := by omega
        have jb : (j : Int) < (nb : Int) := by omega
        obtain ⟨ad2, u, rfl, hau, hu, u0, u1, u2⟩ := ha.val (k := j) (by omega)
        obtain ⟨ad3, v, rfl, hav, hv, v0, v1, v2⟩ := hb.val (k := j) (by omega)
        have hmin : (j : Int) < min (na : Int) (nb : Int) := by omega
        have e5 : decide ((j : Int) < min (na : Int) (nb : Int)) = true := by simpa using hmin
        go_upto_region 8 with fail
        obtain ⟨W1, hW1⟩ : ∃ W1, wo.alloc (.cells #[.string xs, .int .i64 ((j : Int) + 1), .bool xd] 62) = W1 := ⟨_, rfl⟩
        have R1 := AL.out (.cells #[.string xs, .int .i64 ((j : Int) + 1), .bool xd] 62)
        have X1 := Blk.new wo 62 #[.string xs, .int .i64 ((j : Int) + 1), .bool xd]
        have b1 := ball (Below.refl wo.heap.size wo) (.cells #[.string xs, .int .i64 ((j : Int) + 1), .bool xd] 62)
        rw [hW1] at R1 X1 b1
        rw [hW1]
        have HS : Hid (∀ W, Below W0.heap.size W0 W → Blk W wo.heap.size 62 #[.string xs, .int .i64 ((j : Int) + 1), .bool xd] → W.cell? (ad2.add (j * 3)) = some (.int .u8 u.k) ∧ W.cell? ⟨(ad2.add (j * 3)).block, (ad2.add (j * 3)).off + 1, none⟩ = some (.int .i64 u.i) ∧ W.cell? ⟨(ad2.add (j * 3)).block, (ad2.add (j * 3)).off + 2, none⟩ = some (.string u.s) ∧ W.cell? (ad3.add (j * 3)) = some (.int .u8 v.k) ∧ W.cell? ⟨(ad3.add (j * 3)).block, (ad3.add (j * 3)).off + 1, none⟩ = some (.int .i64 v.i) ∧ W.cell? ⟨(ad3.add (j * 3)).block, (ad3.add (j * 3)).off + 2, none⟩ = some (.string v.s) ∧ W.cell? ⟨wo.heap.size, 2, none⟩ = some (.bool xd)) := Lib.hid fun W hW hX => ⟨((bto0 H0.out.2 hW).cell (by rw [block_of_add]; omega)).trans u0, ((bto0 H0.out.2 hW).cell (by show (ad2.add (j * 3)).block < _; rw [block_of_add]; omega)).trans u1, ((bto0 H0.out.2 hW).cell (by show (ad2.add (j * 3)).block < _; rw [block_of_add]; omega)).trans u2, ((bto0 H0.out.2 hW).cell (by rw [block_of_add]; omega)).trans v0, ((bto0 H0.out.2 hW).cell (by show (ad3.add (j * 3)).block < _; rw [block_of_add]; omega)).trans v1, ((bto0 H0.out.2 hW).cell (by show (ad3.add (j * 3)).block < _; rw [block_of_add]; omega)).trans v2, hX.cell 2⟩
        have OLD := rows_old (AL2.out)
        have H1 := Lib.hid (And.intro R1.drew X1.drew)
        have lz : wo.heap.size < W1.heap.size := X1.lt
        obtain ⟨P1, hP1⟩ : ∃ P, selL na nb a (ks.take k) = P := ⟨_, rfl⟩
        obtain ⟨P2, hP2⟩ : ∃ P, selL na nb b (ks.take k) = P := ⟨_, rfl⟩
        obtain ⟨P3, hP3⟩ : ∃ P, selD na nb (ks.take k) = P := ⟨_, rfl⟩
        rw [hP1, hP2, hP3] at H1
        have hPn : P1.length ≤ 1000 ∧ P2.length ≤ 1000 ∧ P3.length ≤ 1000 := by
          rw [← hP1, ← hP2, ← hP3]
          unfold selL selD
          simp only [List.length_map]
          have h7 := List.length_filter_le (okK na nb) (ks.take k)
          have h8 : (ks.take k).length ≤ 1000 := by rw [List.length_take]; omega
          omega
        have HP := Lib.hid (And.intro hP1 (And.intro hP2 (And.intro hP3 (And.intro hu (And.intro hv hok)))))
        have OL := Lib.hid OLD
        clear R1 X1 b1 u0 u1 u2 v0 v1 v2 x0 x1 x2 hW1 e5 hmin OLD hP1 hP2 hP3 hu hv hok hrg
        refine wp_region_held_drew (S := (fun w' => w'.cell? (ad2.add (j * 3)) = some (.int .u8 u.k) ∧ w'.cell? ⟨(ad2.add (j * 3)).block, (ad2.add (j * 3)).off + 1, none⟩ = some (.int .i64 u.i) ∧ w'.cell? ⟨(ad2.add (j * 3)).block, (ad2.add (j * 3)).off + 2, none⟩ = some (.string u.s) ∧ w'.cell? (ad3.add (j * 3)) = some (.int .u8 v.k) ∧ w'.cell? ⟨(ad3.add (j * 3)).block, (ad3.add (j * 3)).off + 1, none⟩ = some (.int .i64 v.i) ∧ w'.cell? ⟨(ad3.add (j * 3)).block, (ad3.add (j * 3)).off + 2, none⟩ = some (.string v.s) ∧ w'.cell? ⟨wo.heap.size, 2, none⟩ = some (.bool xd))) (by kernel_rfl) (HS.out _ H1.out.1.hb H1.out.2) (fun hHeld => ?_)
        try dsimp only at hHeld
        obtain ⟨D0, hD0⟩ : ∃ D0, W1.drew = D0 := ⟨_, rfl⟩
        have C0 := H1
        have lD0 : W1.heap.size ≤ D0.heap.size := by rw [← hD0]; exact Nat.le_refl _
        rw [hD0] at hHeld C0
        rw [hD0]
        clear hD0
        refine wpAnyH_take (i := 0) (v := ?_) rfl (by kernel_rfl) (by kernel_rfl) (by kernel_rfl) (fun _ _ _ h => h) (Or.inl ⟨rfl, ?_⟩) hHeld ?_
        rotate_left
        focus (intro wx hSw; (try dsimp only at hSw); (try go_split_ands); go_simp; (try with_reducible rfl))
        try simp only [Act.put, List.getElem_toArray, List.getElem_cons_succ, List.getElem_cons_zero, List.setIfInBounds_toArray, List.set_cons_zero, List.set_cons_succ]
        refine wpAnyH_take (i := 1) (v := ?_) rfl (by kernel_rfl) (by kernel_rfl) (by kernel_rfl) (fun _ _ _ h => h) (Or.inl ⟨rfl, ?_⟩) hHeld ?_
        rotate_left
        focus (intro wx hSw; (try dsimp only at hSw); (try go_split_ands); go_simp; (try with_reducible rfl))
        try simp only [Act.put, List.getElem_toArray, List.getElem_cons_succ, List.getElem_cons_zero, List.setIfInBounds_toArray, List.set_cons_zero, List.set_cons_succ]
        refine wpAnyH_take (i := 2) (v := ?_) rfl (by kernel_rfl) (by kernel_rfl) (by kernel_rfl) (fun _ _ _ h => h) (Or.inl ⟨rfl, ?_⟩) hHeld ?_
        rotate_left
        focus (intro wx hSw; (try dsimp only at hSw); (try go_split_ands); go_simp; (try with_reducible rfl))
        try simp only [Act.put, List.getElem_toArray, List.getElem_cons_succ, List.getElem_cons_zero, List.setIfInBounds_toArray, List.set_cons_zero, List.set_cons_succ]
        refine wpAnyH_take (i := 3) (v := ?_) rfl (by kernel_rfl) (by kernel_rfl) (by kernel_rfl) (fun _ _ _ h => h) (Or.inl ⟨rfl, ?_⟩) hHeld ?_
        rotate_left
        focus (intro wx hSw; (try dsimp only at hSw); (try go_split_ands); go_simp; (try with_reducible rfl))
        try simp only [Act.put, List.getElem_toArray, List.getElem_cons_succ, List.getElem_cons_zero, List.setIfInBounds_toArray, List.set_cons_zero, List.set_cons_succ]
        refine wpAnyH_take (i := 4) (v := ?_) rfl (by kernel_rfl) (by kernel_rfl) (by kernel_rfl) (fun _ _ _ h => h) (Or.inl ⟨rfl, ?_⟩) hHeld ?_
        rotate_left
        focus (intro wx hSw; (try dsimp only at hSw); (try go_split_ands); go_simp; (try with_reducible rfl))
        try simp only [Act.put, List.getElem_toArray, List.getElem_cons_succ, List.getElem_cons_zero, List.setIfInBounds_toArray, List.set_cons_zero, List.set_cons_succ]
        refine wpAnyH_take (i := 7) (v := ?_) rfl (by kernel_rfl) (by kernel_rfl) (by kernel_rfl) (fun _ _ _ h => h) (Or.inl ⟨rfl, ?_⟩) hHeld ?_
        rotate_left
        focus (intro wx hSw; (try dsimp only at hSw); (try go_split_ands); go_simp; (try with_reducible rfl))
        try simp only [Act.put, List.getElem_toArray, List.getElem_cons_succ, List.getElem_cons_zero, List.setIfInBounds_toArray, List.set_cons_zero, List.set_cons_succ]
        refine wpAnyH_take (i := 8) (v := ?_) rfl (by kernel_rfl) (by kernel_rfl) (by kernel_rfl) (fun _ _ _ h => h) (Or.inl ⟨rfl, ?_⟩) hHeld ?_
        rotate_left
        focus (intro wx hSw; (try dsimp only at hSw); (try go_split_ands); go_simp; (try with_reducible rfl))
        try simp only [Act.put, List.getElem_toArray, List.getElem_cons_succ, List.getElem_cons_zero, List.setIfInBounds_toArray, List.set_cons_zero, List.set_cons_succ]
        refine wpAnyH_take (i := 9) (v := ?_) rfl (by kernel_rfl) (by kernel_rfl) (by kernel_rfl) (fun _ _ _ h => h) (Or.inl ⟨rfl, ?_⟩) hHeld ?_
        rotate_left
        focus (intro wx hSw; (try dsimp only at hSw); (try go_split_ands); go_simp; (try with_reducible rfl))
        try simp only [Act.put, List.getElem_toArray, List.getElem_cons_succ, List.getElem_cons_zero, List.setIfInBounds_toArray, List.set_cons_zero, List.set_cons_succ]
        refine wpAnyH_take (i := 10) (v := ?_) rfl (by kernel_rfl) (by kernel_rfl) (by kernel_rfl) (fun _ _ _ h => h) (Or.inl ⟨rfl, ?_⟩) hHeld ?_
        rotate_left
        focus (intro wx hSw; (try dsimp only at hSw); (try go_split_ands); go_simp; (try with_reducible rfl))
        try simp only [Act.put, List.getElem_toArray, List.getElem_cons_succ, List.getElem_cons_zero, List.setIfInBounds_toArray, List.set_cons_zero, List.set_cons_succ]
        refine wpAnyH_take (i := 11) (v := ?_) rfl (by kernel_rfl) (by kernel_rfl) (by kernel_rfl) (fun _ _ _ h => h) (Or.inl ⟨rfl, ?_⟩) hHeld ?_
        rotate_left
        focus (intro wx hSw; (try dsimp only at hSw); (try go_split_ands); go_simp; (try with_reducible rfl))
        try simp only [Act.put, List.getElem_toArray, List.getElem_cons_succ, List.getElem_cons_zero, List.setIfInBounds_toArray, List.set_cons_zero, List.set_cons_succ]
        refine wpAnyH_take (i := 14) (v := ?_) rfl (by kernel_rfl) (by kernel_rfl) (by kernel_rfl) (fun _ _ _ h => h) (Or.inl ⟨rfl, ?_⟩) hHeld ?_
        rotate_left
        focus (intro wx hSw; (try dsimp only at hSw); (try go_split_ands); go_simp; (try with_reducible rfl))
        try simp only [Act.put, List.getElem_toArray, List.getElem_cons_succ, List.getElem_cons_zero, List.setIfInBounds_toArray, List.set_cons_zero, List.set_cons_succ]
        refine wpAnyH_take (i := 15) (v := ?_) rfl (by kernel_rfl) (by kernel_rfl) (by kernel_rfl) (fun _ _ _ h => h) (Or.inl ⟨rfl, ?_⟩) hHeld ?_
        rotate_left
        focus (intro wx hSw; (try dsimp only at hSw); (try go_split_ands); go_simp; (try with_reducible rfl))
        try simp only [Act.put, List.getElem_toArray, List.getElem_cons_succ, List.getElem_cons_zero, List.setIfInBounds_toArray, List.set_cons_zero, List.set_cons_succ]
        refine wpAnyH_take (i := 16) (v := ?_) rfl (by kernel_rfl) (by kernel_rfl) (by kernel_rfl) (fun _ _ _ h => h) (Or.inl ⟨rfl, ?_⟩) hHeld ?_
        rotate_left
        focus (intro wx hSw; (try dsimp only at hSw); (try go_split_ands); go_simp; (try with_reducible rfl))
        try simp only [Act.put, List.getElem_toArray, List.getElem_cons_succ, List.getElem_cons_zero, List.setIfInBounds_toArray, List.set_cons_zero, List.set_cons_succ]
        refine wpAnyH_ready (rs := [5, 12, 17]) (by kernel_rfl) (by simp) (AllReadyH.cons rfl (fun K hK => ?_) (AllReadyH.cons rfl (fun K hK => ?_) (AllReadyH.cons rfl (fun K hK => ?_) AllReadyH.nil)))
        · go_simp
          obtain ⟨V1, hV1⟩ : ∃ W, D0.alloc (.cells #[.int .u8 u.k, .int .i64 u.i, .string u.s] 26) = W := ⟨_, rfl⟩
          rw [hV1]
          have C1 := C0.out.1.alloc (.cells #[.int .u8 u.k, .int .i64 u.i, .string u.s] 26)
          have K1 := C0.out.2.alloc (.cells #[.int .u8 u.k, .int .i64 u.i, .string u.s] 26)
          have B1 := Blk.new D0 26 #[.int .u8 u.k, .int .i64 u.i, .string u.s]
          rw [hV1] at C1 K1 B1
          have lV1 : W1.heap.size ≤ V1.heap.size := by rw [← hV1]; simp; omega
          clear hV1
          have C1 := Lib.hid (And.intro C1 K1)
          clear K1
          
          refine hK.out _ _ ?_ (fun hHeld => ?_)
          · ((try dsimp only); (try dsimp only at hHeld); exact HS.out _ C1.out.1.hb C1.out.2)
          clear hK K
          try dsimp only at hHeld
          try simp only [Act.put, List.getElem_toArray, List.getElem_cons_succ, List.getElem_cons_zero, List.setIfInBounds_toArray, List.set_cons_zero, List.set_cons_succ]
          refine wpAnyH_ready (rs := [6, 12, 17]) (by kernel_rfl) (by simp) (AllReadyH.cons rfl (fun K hK => ?_) (AllReadyH.cons rfl (fun K hK => ?_) (AllReadyH.cons rfl (fun K hK => ?_) AllReadyH.nil)))
          · skip
            refine step_append_any _ rfl (.tmp 34) (.tmp 39) 22 rfl W0.heap.size 26 i0 _ 3 32 Tryz.underlying22 hi0 hz0 hs0 hy0 rfl (by decide) u7 P1.length (vV P1) (by first | rfl | (simp [Act.eval, Act.put]; done)) C1.out.1.o1 V1.heap.size (some ⟨D0.heap.size, 0, none⟩) 1 1 [.int .u8 u.k, .int .i64 u.i, .string u.s] (by first | rfl | (simp [Act.eval, Act.put]; done)) (reads_of_blk B1 rfl rfl) (by intro y hy; simp only [List.mem_cons, List.not_mem_nil, or_false] at hy; (first | (rcases hy with rfl | rfl | rfl <;> rfl) | (subst hy; rfl))) (by unfold maxLen; omega) (by omega) C1.out.1.hb.size ?_
            intro a1 V2 own1 gr1 ob1
            have K2 := C1.out.2.grown gr1 (fun e => by have := OL.out.1 _ e.symm; omega)
            have lV2 : W1.heap.size ≤ V2.heap.size := by have := gr1.size; omega
            have C2 := Lib.hid (And.intro (C1.out.1.push1 u own1 gr1 ob1) K2)
            clear K2 own1 gr1 ob1 B1
            refine hK.out _ _ ?_ (fun hHeld => ?_)
            · ((try dsimp only); (try dsimp only at hHeld); exact HS.out _ C2.out.1.hb C2.out.2)
            clear hK K
            try dsimp only at hHeld
            try simp only [Act.put, List.getElem_toArray, List.getElem_cons_succ, List.getElem_cons_zero, List.setIfInBounds_toArray, List.set_cons_zero, List.set_cons_succ]
            refine wpAnyH_ready (rs := [12, 17]) (by kernel_rfl) (by simp) (AllReadyH.cons rfl (fun K hK => ?_) (AllReadyH.cons rfl (fun K hK => ?_) AllReadyH.nil))
            · go_simp
              obtain ⟨V3, hV3⟩ : ∃ W, V2.alloc (.cells #[.int .u8 v.k, .int .i64 v.i, .string v.s] 26) = W := ⟨_, rfl⟩
              rw [hV3]
              have C3 := C2.out.1.alloc (.cells #[.int .u8 v.k, .int .i64 v.i, .string v.s] 26)
              have K3 := C2.out.2.alloc (.cells #[.int .u8 v.k, .int .i64 v.i, .string v.s] 26)
              have B2 := Blk.new V2 26 #[.int .u8 v.k, .int .i64 v.i, .string v.s]
              rw [hV3] at C3 K3 B2
              have lV3 : W1.heap.size ≤ V3.heap.size := by rw [← hV3]; simp; omega
              clear hV3
              have C3 := Lib.hid (And.intro C3 K3)
              clear K3
              
              refine hK.out _ _ ?_ (fun hHeld => ?_)
              · ((try dsimp only); (try dsimp only at hHeld); exact HS.out _ C3.out.1.hb C3.out.2)
              clear hK K
              try dsimp only at hHeld
              try simp only [Act.put, List.getElem_toArray, List.getElem_cons_succ, List.getElem_cons_zero, List.setIfInBounds_toArray, List.set_cons_zero, List.set_cons_succ]
              refine wpAnyH_ready (rs := [13, 17]) (by kernel_rfl) (by simp) (AllReadyH.cons rfl (fun K hK => ?_) (AllReadyH.cons rfl (fun K hK => ?_) AllReadyH.nil))
              · skip
                refine step_append_any _ rfl (.tmp 41) (.tmp 46) 22 rfl W0.heap.size 26 i0 _ 3 32 Tryz.underlying22 hi0 hz0 hs0 hy0 rfl (by decide) u8 P2.length (vV P2) (by first | rfl | (simp [Act.eval, Act.put]; done)) C3.out.1.o2 V3.heap.size (some ⟨V2.heap.size, 0, none⟩) 1 1 [.int .u8 v.k, .int .i64 v.i, .string v.s] (by first | rfl | (simp [Act.eval, Act.put]; done)) (reads_of_blk B2 rfl rfl) (by intro y hy; simp only [List.mem_cons, List.not_mem_nil, or_false] at hy; (first | (rcases hy with rfl | rfl | rfl <;> rfl) | (subst hy; rfl))) (by unfold maxLen; omega) (by omega) C3.out.1.hb.size ?_
                intro a2 V4 own2 gr2 ob2
                have K4 := C3.out.2.grown gr2 (fun e => by have := OL.out.2.1 _ e.symm; omega)
                have lV4 : W1.heap.size ≤ V4.heap.size := by have := gr2.size; omega
                have C4 := Lib.hid (And.intro (C3.out.1.push2 v own2 gr2 ob2) K4)
                clear K4 own2 gr2 ob2 B2
                refine hK.out _ _ ?_ (fun hHeld => ?_)
                · ((try dsimp only); (try dsimp only at hHeld); exact HS.out _ C4.out.1.hb C4.out.2)
                clear hK K
                try dsimp only at hHeld
                try simp only [Act.put, List.getElem_toArray, List.getElem_cons_succ, List.getElem_cons_zero, List.setIfInBounds_toArray, List.set_cons_zero, List.set_cons_succ]
                refine wpAnyH_ready (rs := [17]) (by kernel_rfl) (by simp) (AllReadyH.cons rfl (fun K hK => ?_) AllReadyH.nil)
                go_simp
                obtain ⟨V5, hV5⟩ : ∃ W, V4.alloc (.cells #[.bool xd] 4) = W := ⟨_, rfl⟩
                rw [hV5]
                have C5 := C4.out.1.alloc (.cells #[.bool xd] 4)
                have K5 := C4.out.2.alloc (.cells #[.bool xd] 4)
                have B3 := Blk.new V4 4 #[.bool xd]
                rw [hV5] at C5 K5 B3
                have lV5 : W1.heap.size ≤ V5.heap.size := by rw [← hV5]; simp; omega
                clear hV5
                have C5 := Lib.hid (And.intro C5 K5)
                clear K5
                
                refine hK.out _ _ ?_ (fun hHeld => ?_)
                · ((try dsimp only); (try dsimp only at hHeld); exact HS.out _ C5.out.1.hb C5.out.2)
                clear hK K
                try dsimp only at hHeld
                try simp only [Act.put, List.getElem_toArray, List.getElem_cons_succ, List.getElem_cons_zero, List.setIfInBounds_toArray, List.set_cons_zero, List.set_cons_succ]
                refine wpAnyH_ready (rs := [18]) (by kernel_rfl) (by simp) (AllReadyH.cons rfl (fun K hK => ?_) AllReadyH.nil)
                refine step_append_any _ rfl (.tmp 48) (.tmp 51) 83 rfl W0.heap.size 4 i1 _ 1 1 Tryz.underlying83 hi1 hz1 hs1 hy1 rfl (by decide) u9 P3.length (P3.map Value.bool) (by first | rfl | (simp [Act.eval, Act.put]; done)) C5.out.1.o3 V5.heap.size (some ⟨V4.heap.size, 0, none⟩) 1 1 [.bool xd] (by first | rfl | (simp [Act.eval, Act.put]; done)) (reads_of_blk B3 rfl rfl) (by intro y hy; simp only [List.mem_cons, List.not_mem_nil, or_false] at hy; (first | (rcases hy with rfl | rfl | rfl <;> rfl) | (subst hy; rfl))) (by unfold maxLen; omega) (by omega) C5.out.1.hb.size ?_
                intro a3 V6 own3 gr3 ob3
                have K6 := C5.out.2.grown gr3 (fun e => by have := OL.out.2.2 _ e.symm; omega)
                have lV6 : W1.heap.size ≤ V6.heap.size := by have := gr3.size; omega
                have C6 := Lib.hid (And.intro (C5.out.1.push3 xd own3 gr3) K6)
                clear K6 own3 gr3 ob3 B3
                refine hK.out _ _ ?_ (fun hHeld => ?_)
                · ((try dsimp only); (try dsimp only at hHeld); exact HS.out _ C6.out.1.hb C6.out.2)
                clear hK K
                try dsimp only at hHeld
                try simp only [Act.put, List.getElem_toArray, List.getElem_cons_succ, List.getElem_cons_zero, List.setIfInBounds_toArray, List.set_cons_zero, List.set_cons_succ]
                refine wpAnyH_take (i := 19) (v := ?_) rfl (by kernel_rfl) (by kernel_rfl) (by kernel_rfl) (fun _ _ _ h => h) (Or.inl ⟨rfl, ?_⟩) hHeld ?_
                rotate_left
                focus (intro wx hSw; (try dsimp only at hSw); (try go_split_ands); go_simp; (try with_reducible rfl))
                try simp only [Act.put, List.getElem_toArray, List.getElem_cons_succ, List.getElem_cons_zero, List.setIfInBounds_toArray, List.set_cons_zero, List.set_cons_succ]
                refine wpAnyH_take (i := 20) (v := ?_) rfl (by kernel_rfl) (by kernel_rfl) (by kernel_rfl) (fun _ _ _ h => h) (Or.inl ⟨rfl, ?_⟩) hHeld ?_
                rotate_left
                focus (intro wx hSw; (try dsimp only at hSw); (try go_split_ands); go_simp; (try with_reducible rfl))
                try simp only [Act.put, List.getElem_toArray, List.getElem_cons_succ, List.getElem_cons_zero, List.setIfInBounds_toArray, List.set_cons_zero, List.set_cons_succ]
                refine wpAnyH_take (i := 21) (v := ?_) rfl (by kernel_rfl) (by kernel_rfl) (by kernel_rfl) (fun _ _ _ h => h) (Or.inl ⟨rfl, ?_⟩) hHeld ?_
                rotate_left
                focus (intro wx hSw; (try dsimp only at hSw); (try go_split_ands); go_simp; (try with_reducible rfl))
                try simp only [Act.put, List.getElem_toArray, List.getElem_cons_succ, List.getElem_cons_zero, List.setIfInBounds_toArray, List.set_cons_zero, List.set_cons_succ]
                refine wpAnyH_done (by kernel_rfl) ?_ _
                clear hHeld
                have hu := HP.out.2.2.2.1
                have hv := HP.out.2.2.2.2.1
                have eu : atV a ((j : Int) + 1 - 1).toNat = u := by rw [show ((j : Int) + 1 - 1).toNat = j by omega]; simp [atV, hu]
                have evv : atV b ((j : Int) + 1 - 1).toNat = v := by rw [show ((j : Int) + 1 - 1).toNat = j by omega]; simp [atV, hv]
                have hok : okK na nb ⟨xs, (j : Int) + 1, xd⟩ = true := by unfold okK; simpa using HP.out.2.2.2.2.2
                have z1 : selL na nb a (ks.take (k + 1)) = P1 ++ [u] := by rw [HQ.out.1, hok, if_pos rfl, HP.out.1]; exact congrArg (fun z => P1 ++ [z]) eu
                have z2 : selL na nb b (ks.take (k + 1)) = P2 ++ [v] := by rw [HQ.out.2.1, hok, if_pos rfl, HP.out.2.1]; exact congrArg (fun z => P2 ++ [z]) evv
                have z3 : selD na nb (ks.take (k + 1)) = P3 ++ [xd] := by rw [HQ.out.2.2.1, hok, if_pos rfl, HP.out.2.2.1]
                have HZ := Lib.hid (And.intro z1 (And.intro z2 z3))
                clear z1 z2 z3 hok eu evv hu hv
                go_wp2
                refine ⟨⟨k + 1, by go_num, by omega, ?_⟩, by simp [intOf]; omega⟩
                rw [HZ.out.1, HZ.out.2.1, HZ.out.2.2, List.length_append, List.length_append, List.length_append]
                exact C6.out.1
              · go_simp
                obtain ⟨V4, hV4⟩ : ∃ W, V3.alloc (.cells #[.bool xd] 4) = W := ⟨_, rfl⟩
                rw [hV4]
                have C4 := C3.out.1.alloc (.cells #[.bool xd] 4)
                have K4 := C3.out.2.alloc (.cells #[.bool xd] 4)
                have B2 := B2.alloc (.cells #[.bool xd] 4)
                have B3 := Blk.new V3 4 #[.bool xd]
                rw [hV4] at C4 K4 B2 B3
                have lV4 : W1.heap.size ≤ V4.heap.size := by rw [← hV4]; simp; omega
                clear hV4
                have C4 := Lib.hid (And.intro C4 K4)
                clear K4
                
                refine hK.out _ _ ?_ (fun hHeld => ?_)
                · ((try dsimp only); (try dsimp only at hHeld); exact HS.out _ C4.out.1.hb C4.out.2)
                clear hK K
                try dsimp only at hHeld
                try simp only [Act.put, List.getElem_toArray, List.getElem_cons_succ, List.getElem_cons_zero, List.setIfInBounds_toArray, List.set_cons_zero, List.set_cons_succ]
                refine wpAnyH_ready (rs := [13]) (by kernel_rfl) (by simp) (AllReadyH.cons rfl (fun K hK => ?_) AllReadyH.nil)
                refine step_append_any _ rfl (.tmp 41) (.tmp 46) 22 rfl W0.heap.size 26 i0 _ 3 32 Tryz.underlying22 hi0 hz0 hs0 hy0 rfl (by decide) u8 P2.length (vV P2) (by first | rfl | (simp [Act.eval, Act.put]; done)) C4.out.1.o2 V4.heap.size (some ⟨V2.heap.size, 0, none⟩) 1 1 [.int .u8 v.k, .int .i64 v.i, .string v.s] (by first | rfl | (simp [Act.eval, Act.put]; done)) (reads_of_blk B2 rfl rfl) (by intro y hy; simp only [List.mem_cons, List.not_mem_nil, or_false] at hy; (first | (rcases hy with rfl | rfl | rfl <;> rfl) | (subst hy; rfl))) (by unfold maxLen; omega) (by omega) C4.out.1.hb.size ?_
                intro a2 V5 own2 gr2 ob2
                have K5 := C4.out.2.grown gr2 (fun e => by have := OL.out.2.1 _ e.symm; omega)
                have B3 := B3.grown gr2 (fun e => by have := OL.out.2.1 _ e.symm; omega)
                have lV5 : W1.heap.size ≤ V5.heap.size := by have := gr2.size; omega
                have C5 := Lib.hid (And.intro (C4.out.1.push2 v own2 gr2 ob2) K5)
                clear K5 own2 gr2 ob2 B2
                refine hK.out _ _ ?_ (fun hHeld => ?_)
                · ((try dsimp only); (try dsimp only at hHeld); exact HS.out _ C5.out.1.hb C5.out.2)
                clear hK K
                try dsimp only at hHeld
                try simp only [Act.put, List.getElem_toArray, List.getElem_cons_succ, List.getElem_cons_zero, List.setIfInBounds_toArray, List.set_cons_zero, List.set_cons_succ]
                refine wpAnyH_ready (rs := [18]) (by kernel_rfl) (by simp) (AllReadyH.cons rfl (fun K hK => ?_) AllReadyH.nil)
                refine step_append_any _ rfl (.tmp 48) (.tmp 51) 83 rfl W0.heap.size 4 i1 _ 1 1 Tryz.underlying83 hi1 hz1 hs1 hy1 rfl (by decide) u9 P3.length (P3.map Value.bool) (by first | rfl | (simp [Act.eval, Act.put]; done)) C5.out.1.o3 V5.heap.size (some ⟨V3.heap.size, 0, none⟩) 1 1 [.bool xd] (by first | rfl | (simp [Act.eval, Act.put]; done)) (reads_of_blk B3 rfl rfl) (by intro y hy; simp only [List.mem_cons, List.not_mem_nil, or_false] at hy; (first | (rcases hy with rfl | rfl | rfl <;> rfl) | (subst hy; rfl))) (by unfold maxLen; omega) (by omega) C5.out.1.hb.size ?_
                intro a3 V6 own3 gr3 ob3
                have K6 := C5.out.2.grown gr3 (fun e => by have := OL.out.2.2 _ e.symm; omega)
                have lV6 : W1.heap.size ≤ V6.heap.size := by have := gr3.size; omega
                have C6 := Lib.hid (And.intro (C5.out.1.push3 xd own3 gr3) K6)
                clear K6 own3 gr3 ob3 B3
                refine hK.out _ _ ?_ (fun hHeld => ?_)
                · ((try dsimp only); (try dsimp only at hHeld); exact HS.out _ C6.out.1.hb C6.out.2)
                clear hK K
                try dsimp only at hHeld
                try simp only [Act.put, List.getElem_toArray, List.getElem_cons_succ, List.getElem_cons_zero, List.setIfInBounds_toArray, List.set_cons_zero, List.set_cons_succ]
                refine wpAnyH_take (i := 19) (v := ?_) rfl (by kernel_rfl) (by kernel_rfl) (by kernel_rfl) (fun _ _ _ h => h) (Or.inl ⟨rfl, ?_⟩) hHeld ?_
                rotate_left
                focus (intro wx hSw; (try dsimp only at hSw); (try go_split_ands); go_simp; (try with_reducible rfl))
                try simp only [Act.put, List.getElem_toArray, List.getElem_cons_succ, List.getElem_cons_zero, List.setIfInBounds_toArray, List.set_cons_zero, List.set_cons_succ]
                refine wpAnyH_take (i := 20) (v := ?_) rfl (by kernel_rfl) (by kernel_rfl) (by kernel_rfl) (fun _ _ _ h => h) (Or.inl ⟨rfl, ?_⟩) hHeld ?_
                rotate_left
                focus (intro wx hSw; (try dsimp only at hSw); (try go_split_ands); go_simp; (try with_reducible rfl))
                try simp only [Act.put, List.getElem_toArray, List.getElem_cons_succ, List.getElem_cons_zero, List.setIfInBounds_toArray, List.set_cons_zero, List.set_cons_succ]
                refine wpAnyH_take (i := 21) (v := ?_) rfl (by kernel_rfl) (by kernel_rfl) (by kernel_rfl) (fun _ _ _ h => h) (Or.inl ⟨rfl, ?_⟩) hHeld ?_
                rotate_left
                focus (intro wx hSw; (try dsimp only at hSw); (try go_split_ands); go_simp; (try with_reducible rfl))
                try simp only [Act.put, List.getElem_toArray, List.getElem_cons_succ, List.getElem_cons_zero, List.setIfInBounds_toArray, List.set_cons_zero, List.set_cons_succ]
                refine wpAnyH_done (by kernel_rfl) ?_ _
                clear hHeld
                have hu := HP.out.2.2.2.1
                have hv := HP.out.2.2.2.2.1
                have eu : atV a ((j : Int) + 1 - 1).toNat = u := by rw [show ((j : Int) + 1 - 1).toNat = j by omega]; simp [atV, hu]
                have evv : atV b ((j : Int) + 1 - 1).toNat = v := by rw [show ((j : Int) + 1 - 1).toNat = j by omega]; simp [atV, hv]
                have hok : okK na nb ⟨xs, (j : Int) + 1, xd⟩ = true := by unfold okK; simpa using HP.out.2.2.2.2.2
                have z1 : selL na nb a (ks.take (k + 1)) = P1 ++ [u] := by rw [HQ.out.1, hok, if_pos rfl, HP.out.1]; exact congrArg (fun z => P1 ++ [z]) eu
                have z2 : selL na nb b (ks.take (k + 1)) = P2 ++ [v] := by rw [HQ.out.2.1, hok, if_pos rfl, HP.out.2.1]; exact congrArg (fun z => P2 ++ [z]) evv
                have z3 : selD na nb (ks.take (k + 1)) = P3 ++ [xd] := by rw [HQ.out.2.2.1, hok, if_pos rfl, HP.out.2.2.1]
                have HZ := Lib.hid (And.intro z1 (And.intro z2 z3))
                clear z1 z2 z3 hok eu evv hu hv
                go_wp2
                refine ⟨⟨k + 1, by go_num, by omega, ?_⟩, by simp [intOf]; omega⟩
                rw [HZ.out.1, HZ.out.2.1, HZ.out.2.2, List.length_append, List.length_append, List.length_append]
                exact C6.out.1
            · go_simp
              obtain ⟨V3, hV3⟩ : ∃ W, V2.alloc (.cells #[.bool xd] 4) = W := ⟨_, rfl⟩
              rw [hV3]
              have C3 := C2.out.1.alloc (.cells #[.bool xd] 4)
              have K3 := C2.out.2.alloc (.cells #[.bool xd] 4)
              have B3 := Blk.new V2 4 #[.bool xd]
              rw [hV3] at C3 K3 B3
              have lV3 : W1.heap.size ≤ V3.heap.size := by rw [← hV3]; simp; omega
              clear hV3
              have C3 := Lib.hid (And.intro C3 K3)
              clear K3
              
              refine hK.out _ _ ?_ (fun hHeld => ?_)
              · ((try dsimp only); (try dsimp only at hHeld); exact HS.out _ C3.out.1.hb C3.out.2)
              clear hK K
              try dsimp only at hHeld
              try simp only [Act.put, List.getElem_toArray, List.getElem_cons_succ, List.getElem_cons_zero, List.setIfInBounds_toArray, List.set_cons_zero, List.set_cons_succ]
              refine wpAnyH_ready (rs := [12]) (by kernel_rfl) (by simp) (AllReadyH.cons rfl (fun K hK => ?_) AllReadyH.nil)
              go_simp
              obtain ⟨V4, hV4⟩ : ∃ W, V3.alloc (.cells #[.int .u8 v.k, .int .i64 v.i, .string v.s] 26) = W := ⟨_, rfl⟩
              rw [hV4]
              have C4 := C3.out.1.alloc (.cells #[.int .u8 v.k, .int .i64 v.i, .string v.s] 26)
              have K4 := C3.out.2.alloc (.cells #[.int .u8 v.k, .int .i64 v.i, .string v.s] 26)
              have B3 := B3.alloc (.cells #[.int .u8 v.k, .int .i64 v.i, .string v.s] 26)
              have B2 := Blk.new V3 26 #[.int .u8 v.k, .int .i64 v.i, .string v.s]
              rw [hV4] at C4 K4 B3 B2
              have lV4 : W1.heap.size ≤ V4.heap.size := by rw [← hV4]; simp; omega
              clear hV4
              have C4 := Lib.hid (And.intro C4 K4)
              clear K4
              
              refine hK.out _ _ ?_ (fun hHeld => ?_)
              · ((try dsimp only); (try dsimp only at hHeld); exact HS.out _ C4.out.1.hb C4.out.2)
              clear hK K
              try dsimp only at hHeld
              try simp only [Act.put, List.getElem_toArray, List.getElem_cons_succ, List.getElem_cons_zero, List.setIfInBounds_toArray, List.set_cons_zero, List.set_cons_succ]
              refine wpAnyH_ready (rs := [13]) (by kernel_rfl) (by simp) (AllReadyH.cons rfl (fun K hK => ?_) AllReadyH.nil)
              refine step_append_any _ rfl (.tmp 41) (.tmp 46) 22 rfl W0.heap.size 26 i0 _ 3 32 Tryz.underlying22 hi0 hz0 hs0 hy0 rfl (by decide) u8 P2.length (vV P2) (by first | rfl | (simp [Act.eval, Act.put]; done)) C4.out.1.o2 V4.heap.size (some ⟨V3.heap.size, 0, none⟩) 1 1 [.int .u8 v.k, .int .i64 v.i, .string v.s] (by first | rfl | (simp [Act.eval, Act.put]; done)) (reads_of_blk B2 rfl rfl) (by intro y hy; simp only [List.mem_cons, List.not_mem_nil, or_false] at hy; (first | (rcases hy with rfl | rfl | rfl <;> rfl) | (subst hy; rfl))) (by unfold maxLen; omega) (by omega) C4.out.1.hb.size ?_
              intro a2 V5 own2 gr2 ob2
              have K5 := C4.out.2.grown gr2 (fun e => by have := OL.out.2.1 _ e.symm; omega)
              have B3 := B3.grown gr2 (fun e => by have := OL.out.2.1 _ e.symm; omega)
              have lV5 : W1.heap.size ≤ V5.heap.size := by have := gr2.size; omega
              have C5 := Lib.hid (And.intro (C4.out.1.push2 v own2 gr2 ob2) K5)
              clear K5 own2 gr2 ob2 B2
              refine hK.out _ _ ?_ (fun hHeld => ?_)
              · ((try dsimp only); (try dsimp only at hHeld); exact HS.out _ C5.out.1.hb C5.out.2)
              clear hK K
              try dsimp only at hHeld
              try simp only [Act.put, List.getElem_toArray, List.getElem_cons_succ, List.getElem_cons_zero, List.setIfInBounds_toArray, List.set_cons_zero, List.set_cons_succ]
              refine wpAnyH_ready (rs := [18]) (by kernel_rfl) (by simp) (AllReadyH.cons rfl (fun K hK => ?_) AllReadyH.nil)
              refine step_append_any _ rfl (.tmp 48) (.tmp 51) 83 rfl W0.heap.size 4 i1 _ 1 1 Tryz.underlying83 hi1 hz1 hs1 hy1 rfl (by decide) u9 P3.length (P3.map Value.bool) (by first | rfl | (simp [Act.eval, Act.put]; done)) C5.out.1.o3 V5.heap.size (some ⟨V2.heap.size, 0, none⟩) 1 1 [.bool xd] (by first | rfl | (simp [Act.eval, Act.put]; done)) (reads_of_blk B3 rfl rfl) (by intro y hy; simp only [List.mem_cons, List.not_mem_nil, or_false] at hy; (first | (rcases hy with rfl | rfl | rfl <;> rfl) | (subst hy; rfl))) (by unfold maxLen; omega) (by omega) C5.out.1.hb.size ?_
              intro a3 V6 own3 gr3 ob3
              have K6 := C5.out.2.grown gr3 (fun e => by have := OL.out.2.2 _ e.symm; omega)
              have lV6 : W1.heap.size ≤ V6.heap.size := by have := gr3.size; omega
              have C6 := Lib.hid (And.intro (C5.out.1.push3 xd own3 gr3) K6)
              clear K6 own3 gr3 ob3 B3
              refine hK.out _ _ ?_ (fun hHeld => ?_)
              · ((try dsimp only); (try dsimp only at hHeld); exact HS.out _ C6.out.1.hb C6.out.2)
              clear hK K
              try dsimp only at hHeld
              try simp only [Act.put, List.getElem_toArray, List.getElem_cons_succ, List.getElem_cons_zero, List.setIfInBounds_toArray, List.set_cons_zero, List.set_cons_succ]
              refine wpAnyH_take (i := 19) (v := ?_) rfl (by kernel_rfl) (by kernel_rfl) (by kernel_rfl) (fun _ _ _ h => h) (Or.inl ⟨rfl, ?_⟩) hHeld ?_
              rotate_left
              focus (intro wx hSw; (try dsimp only at hSw); (try go_split_ands); go_simp; (try with_reducible rfl))
              try simp only [Act.put, List.getElem_toArray, List.getElem_cons_succ, List.getElem_cons_zero, List.setIfInBounds_toArray, List.set_cons_zero, List.set_cons_succ]
              refine wpAnyH_take (i := 20) (v := ?_) rfl (by kernel_rfl) (by kernel_rfl) (by kernel_rfl) (fun _ _ _ h => h) (Or.inl ⟨rfl, ?_⟩) hHeld ?_
              rotate_left
              focus (intro wx hSw; (try dsimp only at hSw); (try go_split_ands); go_simp; (try with_reducible rfl))
              try simp only [Act.put, List.getElem_toArray, List.getElem_cons_succ, List.getElem_cons_zero, List.setIfInBounds_toArray, List.set_cons_zero, List.set_cons_succ]
              refine wpAnyH_take (i := 21) (v := ?_) rfl (by kernel_rfl) (by kernel_rfl) (by kernel_rfl) (fun _ _ _ h => h) (Or.inl ⟨rfl, ?_⟩) hHeld ?_
              rotate_left
              focus (intro wx hSw; (try dsimp only at hSw); (try go_split_ands); go_simp; (try with_reducible rfl))
              try simp only [Act.put, List.getElem_toArray, List.getElem_cons_succ, List.getElem_cons_zero, List.setIfInBounds_toArray, List.set_cons_zero, List.set_cons_succ]
              refine wpAnyH_done (by kernel_rfl) ?_ _
              clear hHeld
              have hu := HP.out.2.2.2.1
              have hv := HP.out.2.2.2.2.1
              have eu : atV a ((j : Int) + 1 - 1).toNat = u := by rw [show ((j : Int) + 1 - 1).toNat = j by omega]; simp [atV, hu]
              have evv : atV b ((j : Int) + 1 - 1).toNat = v := by rw [show ((j : Int) + 1 - 1).toNat = j by omega]; simp [atV, hv]
              have hok : okK na nb ⟨xs, (j : Int) + 1, xd⟩ = true := by unfold okK; simpa using HP.out.2.2.2.2.2
              have z1 : selL na nb a (ks.take (k + 1)) = P1 ++ [u] := by rw [HQ.out.1, hok, if_pos rfl, HP.out.1]; exact congrArg (fun z => P1 ++ [z]) eu
              have z2 : selL na nb b (ks.take (k + 1)) = P2 ++ [v] := by rw [HQ.out.2.1, hok, if_pos rfl, HP.out.2.1]; exact congrArg (fun z => P2 ++ [z]) evv
              have z3 : selD na nb (ks.take (k + 1)) = P3 ++ [xd] := by rw [HQ.out.2.2.1, hok, if_pos rfl, HP.out.2.2.1]
              have HZ := Lib.hid (And.intro z1 (And.intro z2 z3))
              clear z1 z2 z3 hok eu evv hu hv
              go_wp2
              refine ⟨⟨k + 1, by go_num, by omega, ?_⟩, by simp [intOf]; omega⟩
              rw [HZ.out.1, HZ.out.2.1, HZ.out.2.2, List.length_append, List.length_append, List.length_append]
              exact C6.out.1
          · go_simp
            obtain ⟨V2, hV2⟩ : ∃ W, V1.alloc (.cells #[.int .u8 v.k, .int .i64 v.i, .string v.s] 26) = W := ⟨_, rfl⟩
            rw [hV2]
            have C2 := C1.out.1.alloc (.cells #[.int .u8 v.k, .int .i64 v.i, .string v.s] 26)
            have K2 := C1.out.2.alloc (.cells #[.int .u8 v.k, .int .i64 v.i, .string v.s] 26)
            have B1 := B1.alloc (.cells #[.int .u8 v.k, .int .i64 v.i, .string v.s] 26)
            have B2 := Blk.new V1 26 #[.int .u8 v.k, .int .i64 v.i, .string v.s]
            rw [hV2] at C2 K2 B1 B2
            have lV2 : W1.heap.size ≤ V2.heap.size := by rw [← hV2]; simp; omega
            clear hV2
            have C2 := Lib.hid (And.intro C2 K2)
            clear K2
            
            refine hK.out _ _ ?_ (fun hHeld => ?_)
            · ((try dsimp only); (try dsimp only at hHeld); exact HS.out _ C2.out.1.hb C2.out.2)
            clear hK K
            try dsimp only at hHeld
            try simp only [Act.put, List.getElem_toArray, List.getElem_cons_succ, List.getElem_cons_zero, List.setIfInBounds_toArray, List.set_cons_zero, List.set_cons_succ]
            refine wpAnyH_ready (rs := [6, 17]) (by kernel_rfl) (by simp) (AllReadyH.cons rfl (fun K hK => ?_) (AllReadyH.cons rfl (fun K hK => ?_) AllReadyH.nil))
            · skip
              refine step_append_any _ rfl (.tmp 34) (.tmp 39) 22 rfl W0.heap.size 26 i0 _ 3 32 Tryz.underlying22 hi0 hz0 hs0 hy0 rfl (by decide) u7 P1.length (vV P1) (by first | rfl | (simp [Act.eval, Act.put]; done)) C2.out.1.o1 V2.heap.size (some ⟨D0.heap.size, 0, none⟩) 1 1 [.int .u8 u.k, .int .i64 u.i, .string u.s] (by first | rfl | (simp [Act.eval, Act.put]; done)) (reads_of_blk B1 rfl rfl) (by intro y hy; simp only [List.mem_cons, List.not_mem_nil, or_false] at hy; (first | (rcases hy with rfl | rfl | rfl <;> rfl) | (subst hy; rfl))) (by unfold maxLen; omega) (by omega) C2.out.1.hb.size ?_
              intro a1 V3 own1 gr1 ob1
              have K3 := C2.out.2.grown gr1 (fun e => by have := OL.out.1 _ e.symm; omega)
              have B2 := B2.grown gr1 (fun e => by have := OL.out.1 _ e.symm; omega)
              have lV3 : W1.heap.size ≤ V3.heap.size := by have := gr1.size; omega
              have C3 := Lib.hid (And.intro (C2.out.1.push1 u own1 gr1 ob1) K3)
              clear K3 own1 gr1 ob1 B1
              refine hK.out _ _ ?_ (fun hHeld => ?_)
              · ((try dsimp only); (try dsimp only at hHeld); exact HS.out _ C3.out.1.hb C3.out.2)
              clear hK K
              try dsimp only at hHeld
              try simp only [Act.put, List.getElem_toArray, List.getElem_cons_succ, List.getElem_cons_zero, List.setIfInBounds_toArray, List.set_cons_zero, List.set_cons_succ]
              refine wpAnyH_ready (rs := [13, 17]) (by kernel_rfl) (by simp) (AllReadyH.cons rfl (fun K hK => ?_) (AllReadyH.cons rfl (fun K hK => ?_) AllReadyH.nil))
              · skip
                refine step_append_any _ rfl (.tmp 41) (.tmp 46) 22 rfl W0.heap.size 26 i0 _ 3 32 Tryz.underlying22 hi0 hz0 hs0 hy0 rfl (by decide) u8 P2.length (vV P2) (by first | rfl | (simp [Act.eval, Act.put]; done)) C3.out.1.o2 V3.heap.size (some ⟨V1.heap.size, 0, none⟩) 1 1 [.int .u8 v.k, .int .i64 v.i, .string v.s] (by first | rfl | (simp [Act.eval, Act.put]; done)) (reads_of_blk B2 rfl rfl) (by intro y hy; simp only [List.mem_cons, List.not_mem_nil, or_false] at hy; (first | (rcases hy with rfl | rfl | rfl <;> rfl) | (subst hy; rfl))) (by unfold maxLen; omega) (by omega) C3.out.1.hb.size ?_
                intro a2 V4 own2 gr2 ob2
                have K4 := C3.out.2.grown gr2 (fun e => by have := OL.out.2.1 _ e.symm; omega)
                have lV4 : W1.heap.size ≤ V4.heap.size := by have := gr2.size; omega
                have C4 := Lib.hid (And.intro (C3.out.1.push2 v own2 gr2 ob2) K4)
                clear K4 own2 gr2 ob2 B2
                refine hK.out _ _ ?_ (fun hHeld => ?_)
                · ((try dsimp only); (try dsimp only at hHeld); exact HS.out _ C4.out.1.hb C4.out.2)
                clear hK K
                try dsimp only at hHeld
                try simp only [Act.put, List.getElem_toArray, List.getElem_cons_succ, List.getElem_cons_zero, List.setIfInBounds_toArray, List.set_cons_zero, List.set_cons_succ]
                refine wpAnyH_ready (rs := [17]) (by kernel_rfl) (by simp) (AllReadyH.cons rfl (fun K hK => ?_) AllReadyH.nil)
                go_simp
                obtain ⟨V5, hV5⟩ : ∃ W, V4.alloc (.cells #[.bool xd] 4) = W := ⟨_, rfl⟩
                rw [hV5]
                have C5 := C4.out.1.alloc (.cells #[.bool xd] 4)
                have K5 := C4.out.2.alloc (.cells #[.bool xd] 4)
                have B3 := Blk.new V4 4 #[.bool xd]
                rw [hV5] at C5 K5 B3
                have lV5 : W1.heap.size ≤ V5.heap.size := by rw [← hV5]; simp; omega
                clear hV5
                have C5 := Lib.hid (And.intro C5 K5)
                clear K5
                
                refine hK.out _ _ ?_ (fun hHeld => ?_)
                · ((try dsimp only); (try dsimp only at hHeld); exact HS.out _ C5.out.1.hb C5.out.2)
                clear hK K
                try dsimp only at hHeld
                try simp only [Act.put, List.getElem_toArray, List.getElem_cons_succ, List.getElem_cons_zero, List.setIfInBounds_toArray, List.set_cons_zero, List.set_cons_succ]
                refine wpAnyH_ready (rs := [18]) (by kernel_rfl) (by simp) (AllReadyH.cons rfl (fun K hK => ?_) AllReadyH.nil)
                refine step_append_any _ rfl (.tmp 48) (.tmp 51) 83 rfl W0.heap.size 4 i1 _ 1 1 Tryz.underlying83 hi1 hz1 hs1 hy1 rfl (by decide) u9 P3.length (P3.map Value.bool) (by first | rfl | (simp [Act.eval, Act.put]; done)) C5.out.1.o3 V5.heap.size (some ⟨V4.heap.size, 0, none⟩) 1 1 [.bool xd] (by first | rfl | (simp [Act.eval, Act.put]; done)) (reads_of_blk B3 rfl rfl) (by intro y hy; simp only [List.mem_cons, List.not_mem_nil, or_false] at hy; (first | (rcases hy with rfl | rfl | rfl <;> rfl) | (subst hy; rfl))) (by unfold maxLen; omega) (by omega) C5.out.1.hb.size ?_
                intro a3 V6 own3 gr3 ob3
                have K6 := C5.out.2.grown gr3 (fun e => by have := OL.out.2.2 _ e.symm; omega)
                have lV6 : W1.heap.size ≤ V6.heap.size := by have := gr3.size; omega
                have C6 := Lib.hid (And.intro (C5.out.1.push3 xd own3 gr3) K6)
                clear K6 own3 gr3 ob3 B3
                refine hK.out _ _ ?_ (fun hHeld => ?_)
                · ((try dsimp only); (try dsimp only at hHeld); exact HS.out _ C6.out.1.hb C6.out.2)
                clear hK K
                try dsimp only at hHeld
                try simp only [Act.put, List.getElem_toArray, List.getElem_cons_succ, List.getElem_cons_zero, List.setIfInBounds_toArray, List.set_cons_zero, List.set_cons_succ]
                refine wpAnyH_take (i := 19) (v := ?_) rfl (by kernel_rfl) (by kernel_rfl) (by kernel_rfl) (fun _ _ _ h => h) (Or.inl ⟨rfl, ?_⟩) hHeld ?_
                rotate_left
                focus (intro wx hSw; (try dsimp only at hSw); (try go_split_ands); go_simp; (try with_reducible rfl))
                try simp only [Act.put, List.getElem_toArray, List.getElem_cons_succ, List.getElem_cons_zero, List.setIfInBounds_toArray, List.set_cons_zero, List.set_cons_succ]
                refine wpAnyH_take (i := 20) (v := ?_) rfl (by kernel_rfl) (by kernel_rfl) (by kernel_rfl) (fun _ _ _ h => h) (Or.inl ⟨rfl, ?_⟩) hHeld ?_
                rotate_left
                focus (intro wx hSw; (try dsimp only at hSw); (try go_split_ands); go_simp; (try with_reducible rfl))
                try simp only [Act.put, List.getElem_toArray, List.getElem_cons_succ, List.getElem_cons_zero, List.setIfInBounds_toArray, List.set_cons_zero, List.set_cons_succ]
                refine wpAnyH_take (i := 21) (v := ?_) rfl (by kernel_rfl) (by kernel_rfl) (by kernel_rfl) (fun _ _ _ h => h) (Or.inl ⟨rfl, ?_⟩) hHeld ?_
                rotate_left
                focus (intro wx hSw; (try dsimp only at hSw); (try go_split_ands); go_simp; (try with_reducible rfl))
                try simp only [Act.put, List.getElem_toArray, List.getElem_cons_succ, List.getElem_cons_zero, List.setIfInBounds_toArray, List.set_cons_zero, List.set_cons_succ]
                refine wpAnyH_done (by kernel_rfl) ?_ _
                clear hHeld
                have hu := HP.out.2.2.2.1
                have hv := HP.out.2.2.2.2.1
                have eu : atV a ((j : Int) + 1 - 1).toNat = u := by rw [show ((j : Int) + 1 - 1).toNat = j by omega]; simp [atV, hu]
                have evv : atV b ((j : Int) + 1 - 1).toNat = v := by rw [show ((j : Int) + 1 - 1).toNat = j by omega]; simp [atV, hv]
                have hok : okK na nb ⟨xs, (j : Int) + 1, xd⟩ = true := by unfold okK; simpa using HP.out.2.2.2.2.2
                have z1 : selL na nb a (ks.take (k + 1)) = P1 ++ [u] := by rw [HQ.out.1, hok, if_pos rfl, HP.out.1]; exact congrArg (fun z => P1 ++ [z]) eu
                have z2 : selL na nb b (ks.take (k + 1)) = P2 ++ [v] := by rw [HQ.out.2.1, hok, if_pos rfl, HP.out.2.1]; exact congrArg (fun z => P2 ++ [z]) evv
                have z3 : selD na nb (ks.take (k + 1)) = P3 ++ [xd] := by rw [HQ.out.2.2.1, hok, if_pos rfl, HP.out.2.2.1]
                have HZ := Lib.hid (And.intro z1 (And.intro z2 z3))
                clear z1 z2 z3 hok eu evv hu hv
                go_wp2
                refine ⟨⟨k + 1, by go_num, by omega, ?_⟩, by simp [intOf]; omega⟩
                rw [HZ.out.1, HZ.out.2.1, HZ.out.2.2, List.length_append, List.length_append, List.length_append]
                exact C6.out.1
              · go_simp
                obtain ⟨V4, hV4⟩ : ∃ W, V3.alloc (.cells #[.bool xd] 4) = W := ⟨_, rfl⟩
                rw [hV4]
                have C4 := C3.out.1.alloc (.cells #[.bool xd] 4)
                have K4 := C3.out.2.alloc (.cells #[.bool xd] 4)
                have B2 := B2.alloc (.cells #[.bool xd] 4)
                have B3 := Blk.new V3 4 #[.bool xd]
                rw [hV4] at C4 K4 B2 B3
                have lV4 : W1.heap.size ≤ V4.heap.size := by rw [← hV4]; simp; omega
                clear hV4
                have C4 := Lib.hid (And.intro C4 K4)
                clear K4
                
                refine hK.out _ _ ?_ (fun hHeld => ?_)
                · ((try dsimp only); (try dsimp only at hHeld); exact HS.out _ C4.out.1.hb C4.out.2)
                clear hK K
                try dsimp only at hHeld
                try simp only [Act.put, List.getElem_toArray, List.getElem_cons_succ, List.getElem_cons_zero, List.setIfInBounds_toArray, List.set_cons_zero, List.set_cons_succ]
                refine wpAnyH_ready (rs := [13]) (by kernel_rfl) (by simp) (AllReadyH.cons rfl (fun K hK => ?_) AllReadyH.nil)
                refine step_append_any _ rfl (.tmp 41) (.tmp 46) 22 rfl W0.heap.size 26 i0 _ 3 32 Tryz.underlying22 hi0 hz0 hs0 hy0 rfl (by decide) u8 P2.length (vV P2) (by first | rfl | (simp [Act.eval, Act.put]; done)) C4.out.1.o2 V4.heap.size (some ⟨V1.heap.size, 0, none⟩) 1 1 [.int .u8 v.k, .int .i64 v.i, .string v.s] (by first | rfl | (simp [Act.eval, Act.put]; done)) (reads_of_blk B2 rfl rfl) (by intro y hy; simp only [List.mem_cons, List.not_mem_nil, or_false] at hy; (first | (rcases hy with rfl | rfl | rfl <;> rfl) | (subst hy; rfl))) (by unfold maxLen; omega) (by omega) C4.out.1.hb.size ?_
                intro a2 V5 own2 gr2 ob2
                have K5 := C4.out.2.grown gr2 (fun e => by have := OL.out.2.1 _ e.symm; omega)
                have B3 := B3.grown gr2 (fun e => by have := OL.out.2.1 _ e.symm; omega)
                have lV5 : W1.heap.size ≤ V5.heap.size := by have := gr2.size; omega
                have C5 := Lib.hid (And.intro (C4.out.1.push2 v own2 gr2 ob2) K5)
                clear K5 own2 gr2 ob2 B2
                refine hK.out _ _ ?_ (fun hHeld => ?_)
                · ((try dsimp only); (try dsimp only at hHeld); exact HS.out _ C5.out.1.hb C5.out.2)
                clear hK K
                try dsimp only at hHeld
                try simp only [Act.put, List.getElem_toArray, List.getElem_cons_succ, List.getElem_cons_zero, List.setIfInBounds_toArray, List.set_cons_zero, List.set_cons_succ]
                refine wpAnyH_ready (rs := [18]) (by kernel_rfl) (by simp) (AllReadyH.cons rfl (fun K hK => ?_) AllReadyH.nil)
                refine step_append_any _ rfl (.tmp 48) (.tmp 51) 83 rfl W0.heap.size 4 i1 _ 1 1 Tryz.underlying83 hi1 hz1 hs1 hy1 rfl (by decide) u9 P3.length (P3.map Value.bool) (by first | rfl | (simp [Act.eval, Act.put]; done)) C5.out.1.o3 V5.heap.size (some ⟨V3.heap.size, 0, none⟩) 1 1 [.bool xd] (by first | rfl | (simp [Act.eval, Act.put]; done)) (reads_of_blk B3 rfl rfl) (by intro y hy; simp only [List.mem_cons, List.not_mem_nil, or_false] at hy; (first | (rcases hy with rfl | rfl | rfl <;> rfl) | (subst hy; rfl))) (by unfold maxLen; omega) (by omega) C5.out.1.hb.size ?_
                intro a3 V6 own3 gr3 ob3
                have K6 := C5.out.2.grown gr3 (fun e => by have := OL.out.2.2 _ e.symm; omega)
                have lV6 : W1.heap.size ≤ V6.heap.size := by have := gr3.size; omega
                have C6 := Lib.hid (And.intro (C5.out.1.push3 xd own3 gr3) K6)
                clear K6 own3 gr3 ob3 B3
                refine hK.out _ _ ?_ (fun hHeld => ?_)
                · ((try dsimp only); (try dsimp only at hHeld); exact HS.out _ C6.out.1.hb C6.out.2)
                clear hK K
                try dsimp only at hHeld
                try simp only [Act.put, List.getElem_toArray, List.getElem_cons_succ, List.getElem_cons_zero, List.setIfInBounds_toArray, List.set_cons_zero, List.set_cons_succ]
                refine wpAnyH_take (i := 19) (v := ?_) rfl (by kernel_rfl) (by kernel_rfl) (by kernel_rfl) (fun _ _ _ h => h) (Or.inl ⟨rfl, ?_⟩) hHeld ?_
                rotate_left
                focus (intro wx hSw; (try dsimp only at hSw); (try go_split_ands); go_simp; (try with_reducible rfl))
                try simp only [Act.put, List.getElem_toArray, List.getElem_cons_succ, List.getElem_cons_zero, List.setIfInBounds_toArray, List.set_cons_zero, List.set_cons_succ]
                refine wpAnyH_take (i := 20) (v := ?_) rfl (by kernel_rfl) (by kernel_rfl) (by kernel_rfl) (fun _ _ _ h => h) (Or.inl ⟨rfl, ?_⟩) hHeld ?_
                rotate_left
                focus (intro wx hSw; (try dsimp only at hSw); (try go_split_ands); go_simp; (try with_reducible rfl))
                try simp only [Act.put, List.getElem_toArray, List.getElem_cons_succ, List.getElem_cons_zero, List.setIfInBounds_toArray, List.set_cons_zero, List.set_cons_succ]
                refine wpAnyH_take (i := 21) (v := ?_) rfl (by kernel_rfl) (by kernel_rfl) (by kernel_rfl) (fun _ _ _ h => h) (Or.inl ⟨rfl, ?_⟩) hHeld ?_
                rotate_left
                focus (intro wx hSw; (try dsimp only at hSw); (try go_split_ands); go_simp; (try with_reducible rfl))
                try simp only [Act.put, List.getElem_toArray, List.getElem_cons_succ, List.getElem_cons_zero, List.setIfInBounds_toArray, List.set_cons_zero, List.set_cons_succ]
                refine wpAnyH_done (by kernel_rfl) ?_ _
                clear hHeld
                have hu := HP.out.2.2.2.1
                have hv := HP.out.2.2.2.2.1
                have eu : atV a ((j : Int) + 1 - 1).toNat = u := by rw [show ((j : Int) + 1 - 1).toNat = j by omega]; simp [atV, hu]
                have evv : atV b ((j : Int) + 1 - 1).toNat = v := by rw [show ((j : Int) + 1 - 1).toNat = j by omega]; simp [atV, hv]
                have hok : okK na nb ⟨xs, (j : Int) + 1, xd⟩ = true := by unfold okK; simpa using HP.out.2.2.2.2.2
                have z1 : selL na nb a (ks.take (k + 1)) = P1 ++ [u] := by rw [HQ.out.1, hok, if_pos rfl, HP.out.1]; exact congrArg (fun z => P1 ++ [z]) eu
                have z2 : selL na nb b (ks.take (k + 1)) = P2 ++ [v] := by rw [HQ.out.2.1, hok, if_pos rfl, HP.out.2.1]; exact congrArg (fun z => P2 ++ [z]) evv
                have z3 : selD na nb (ks.take (k + 1)) = P3 ++ [xd] := by rw [HQ.out.2.2.1, hok, if_pos rfl, HP.out.2.2.1]
                have HZ := Lib.hid (And.intro z1 (And.intro z2 z3))
                clear z1 z2 z3 hok eu evv hu hv
                go_wp2
                refine ⟨⟨k + 1, by go_num, by omega, ?_⟩, by simp [intOf]; omega⟩
                rw [HZ.out.1, HZ.out.2.1, HZ.out.2.2, List.length_append, List.length_append, List.length_append]
                exact C6.out.1
            · go_simp
              obtain ⟨V3, hV3⟩ : ∃ W, V2.alloc (.cells #[.bool xd] 4) = W := ⟨_, rfl⟩
              rw [hV3]
              have C3 := C2.out.1.alloc (.cells #[.bool xd] 4)
              have K3 := C2.out.2.alloc (.cells #[.bool xd] 4)
              have B1 := B1.alloc (.cells #[.bool xd] 4)
              have B2 := B2.alloc (.cells #[.bool xd] 4)
              have B3 := Blk.new V2 4 #[.bool xd]
              rw [hV3] at C3 K3 B1 B2 B3
              have lV3 : W1.heap.size ≤ V3.heap.size := by rw [← hV3]; simp; omega
              clear hV3
              have C3 := Lib.hid (And.intro C3 K3)
              clear K3
              
              refine hK.out _ _ ?_ (fun hHeld => ?_)
              · ((try dsimp only); (try dsimp only at hHeld); exact HS.out _ C3.out.1.hb C3.out.2)
              clear hK K
              try dsimp only at hHeld
              try simp only [Act.put, List.getElem_toArray, List.getElem_cons_succ, List.getElem_cons_zero, List.setIfInBounds_toArray, List.set_cons_zero, List.set_cons_succ]
              refine wpAnyH_ready (rs := [6]) (by kernel_rfl) (by simp) (AllReadyH.cons rfl (fun K hK => ?_) AllReadyH.nil)
              refine step_append_any _ rfl (.tmp 34) (.tmp 39) 22 rfl W0.heap.size 26 i0 _ 3 32 Tryz.underlying22 hi0 hz0 hs0 hy0 rfl (by decide) u7 P1.length (vV P1) (by first | rfl | (simp [Act.eval, Act.put]; done)) C3.out.1.o1 V3.heap.size (some ⟨D0.heap.size, 0, none⟩) 1 1 [.int .u8 u.k, .int .i64 u.i, .string u.s] (by first | rfl | (simp [Act.eval, Act.put]; done)) (reads_of_blk B1 rfl rfl) (by intro y hy; simp only [List.mem_cons, List.not_mem_nil, or_false] at hy; (first | (rcases hy with rfl | rfl | rfl <;> rfl) | (subst hy; rfl))) (by unfold maxLen; omega) (by omega) C3.out.1.hb.size ?_
              intro a1 V4 own1 gr1 ob1
              have K4 := C3.out.2.grown gr1 (fun e => by have := OL.out.1 _ e.symm; omega)
              have B2 := B2.grown gr1 (fun e => by have := OL.out.1 _ e.symm; omega)
              have B3 := B3.grown gr1 (fun e => by have := OL.out.1 _ e.symm; omega)
              have lV4 : W1.heap.size ≤ V4.heap.size := by have := gr1.size; omega
              have C4 := Lib.hid (And.intro (C3.out.1.push1 u own1 gr1 ob1) K4)
              clear K4 own1 gr1 ob1 B1
              refine hK.out _ _ ?_ (fun hHeld => ?_)
              · ((try dsimp only); (try dsimp only at hHeld); exact HS.out _ C4.out.1.hb C4.out.2)
              clear hK K
              try dsimp only at hHeld
              try simp only [Act.put, List.getElem_toArray, List.getElem_cons_succ, List.getElem_cons_zero, List.setIfInBounds_toArray, List.set_cons_zero, List.set_cons_succ]
              refine wpAnyH_ready (rs := [13]) (by kernel_rfl) (by simp) (AllReadyH.cons rfl (fun K hK => ?_) AllReadyH.nil)
              refine step_append_any _ rfl (.tmp 41) (.tmp 46) 22 rfl W0.heap.size 26 i0 _ 3 32 Tryz.underlying22 hi0 hz0 hs0 hy0 rfl (by decide) u8 P2.length (vV P2) (by first | rfl | (simp [Act.eval, Act.put]; done)) C4.out.1.o2 V4.heap.size (some ⟨V1.heap.size, 0, none⟩) 1 1 [.int .u8 v.k, .int .i64 v.i, .string v.s] (by first | rfl | (simp [Act.eval, Act.put]; done)) (reads_of_blk B2 rfl rfl) (by intro y hy; simp only [List.mem_cons, List.not_mem_nil, or_false] at hy; (first | (rcases hy with rfl | rfl | rfl <;> rfl) | (subst hy; rfl))) (by unfold maxLen; omega) (by omega) C4.out.1.hb.size ?_
              intro a2 V5 own2 gr2 ob2
              have K5 := C4.out.2.grown gr2 (fun e => by have := OL.out.2.1 _ e.symm; omega)
              have B3 := B3.grown gr2 (fun e => by have := OL.out.2.1 _ e.symm; omega)
              have lV5 : W1.heap.size ≤ V5.heap.size := by have := gr2.size; omega
              have C5 := Lib.hid (And.intro (C4.out.1.push2 v own2 gr2 ob2) K5)
              clear K5 own2 gr2 ob2 B2
              refine hK.out _ _ ?_ (fun hHeld => ?_)
              · ((try dsimp only); (try dsimp only at hHeld); exact HS.out _ C5.out.1.hb C5.out.2)
              clear hK K
              try dsimp only at hHeld
              try simp only [Act.put, List.getElem_toArray, List.getElem_cons_succ, List.getElem_cons_zero, List.setIfInBounds_toArray, List.set_cons_zero, List.set_cons_succ]
              refine wpAnyH_ready (rs := [18]) (by kernel_rfl) (by simp) (AllReadyH.cons rfl (fun K hK => ?_) AllReadyH.nil)
              refine step_append_any _ rfl (.tmp 48) (.tmp 51) 83 rfl W0.heap.size 4 i1 _ 1 1 Tryz.underlying83 hi1 hz1 hs1 hy1 rfl (by decide) u9 P3.length (P3.map Value.bool) (by first | rfl | (simp [Act.eval, Act.put]; done)) C5.out.1.o3 V5.heap.size (some ⟨V2.heap.size, 0, none⟩) 1 1 [.bool xd] (by first | rfl | (simp [Act.eval, Act.put]; done)) (reads_of_blk B3 rfl rfl) (by intro y hy; simp only [List.mem_cons, List.not_mem_nil, or_false] at hy; (first | (rcases hy with rfl | rfl | rfl <;> rfl) | (subst hy; rfl))) (by unfold maxLen; omega) (by omega) C5.out.1.hb.size ?_
              intro a3 V6 own3 gr3 ob3
              have K6 := C5.out.2.grown gr3 (fun e => by have := OL.out.2.2 _ e.symm; omega)
              have lV6 : W1.heap.size ≤ V6.heap.size := by have := gr3.size; omega
              have C6 := Lib.hid (And.intro (C5.out.1.push3 xd own3 gr3) K6)
              clear K6 own3 gr3 ob3 B3
              refine hK.out _ _ ?_ (fun hHeld => ?_)
              · ((try dsimp only); (try dsimp only at hHeld); exact HS.out _ C6.out.1.hb C6.out.2)
              clear hK K
              try dsimp only at hHeld
              try simp only [Act.put, List.getElem_toArray, List.getElem_cons_succ, List.getElem_cons_zero, List.setIfInBounds_toArray, List.set_cons_zero, List.set_cons_succ]
              refine wpAnyH_take (i := 19) (v := ?_) rfl (by kernel_rfl) (by kernel_rfl) (by kernel_rfl) (fun _ _ _ h => h) (Or.inl ⟨rfl, ?_⟩) hHeld ?_
              rotate_left
              focus (intro wx hSw; (try dsimp only at hSw); (try go_split_ands); go_simp; (try with_reducible rfl))
              try simp only [Act.put, List.getElem_toArray, List.getElem_cons_succ, List.getElem_cons_zero, List.setIfInBounds_toArray, List.set_cons_zero, List.set_cons_succ]
              refine wpAnyH_take (i := 20) (v := ?_) rfl (by kernel_rfl) (by kernel_rfl) (by kernel_rfl) (fun _ _ _ h => h) (Or.inl ⟨rfl, ?_⟩) hHeld ?_
              rotate_left
              focus (intro wx hSw; (try dsimp only at hSw); (try go_split_ands); go_simp; (try with_reducible rfl))
              try simp only [Act.put, List.getElem_toArray, List.getElem_cons_succ, List.getElem_cons_zero, List.setIfInBounds_toArray, List.set_cons_zero, List.set_cons_succ]
              refine wpAnyH_take (i := 21) (v := ?_) rfl (by kernel_rfl) (by kernel_rfl) (by kernel_rfl) (fun _ _ _ h => h) (Or.inl ⟨rfl, ?_⟩) hHeld ?_
              rotate_left
              focus (intro wx hSw; (try dsimp only at hSw); (try go_split_ands); go_simp; (try with_reducible rfl))
              try simp only [Act.put, List.getElem_toArray, List.getElem_cons_succ, List.getElem_cons_zero, List.setIfInBounds_toArray, List.set_cons_zero, List.set_cons_succ]
              refine wpAnyH_done (by kernel_rfl) ?_ _
              clear hHeld
              have hu := HP.out.2.2.2.1
              have hv := HP.out.2.2.2.2.1
              have eu : atV a ((j : Int) + 1 - 1).toNat = u := by rw [show ((j : Int) + 1 - 1).toNat = j by omega]; simp [atV, hu]
              have evv : atV b ((j : Int) + 1 - 1).toNat = v := by rw [show ((j : Int) + 1 - 1).toNat = j by omega]; simp [atV, hv]
              have hok : okK na nb ⟨xs, (j : Int) + 1, xd⟩ = true := by unfold okK; simpa using HP.out.2.2.2.2.2
              have z1 : selL na nb a (ks.take (k + 1)) = P1 ++ [u] := by rw [HQ.out.1, hok, if_pos rfl, HP.out.1]; exact congrArg (fun z => P1 ++ [z]) eu
              have z2 : selL na nb b (ks.take (k + 1)) = P2 ++ [v] := by rw [HQ.out.2.1, hok, if_pos rfl, HP.out.2.1]; exact congrArg (fun z => P2 ++ [z]) evv
              have z3 : selD na nb (ks.take (k + 1)) = P3 ++ [xd] := by rw [HQ.out.2.2.1, hok, if_pos rfl, HP.out.2.2.1]
              have HZ := Lib.hid (And.intro z1 (And.intro z2 z3))
              clear z1 z2 z3 hok eu evv hu hv
              go_wp2
              refine ⟨⟨k + 1, by go_num, by omega, ?_⟩, by simp [intOf]; omega⟩
              rw [HZ.out.1, HZ.out.2.1, HZ.out.2.2, List.length_append, List.length_append, List.length_append]
              exact C6.out.1
          · go_simp
            obtain ⟨V2, hV2⟩ : ∃ W, V1.alloc (.cells #[.bool xd] 4) = W := ⟨_, rfl⟩
            rw [hV2]
            have C2 := C1.out.1.alloc (.cells #[.bool xd] 4)
            have K2 := C1.out.2.alloc (.cells #[.bool xd] 4)
            have B1 := B1.alloc (.cells #[.bool xd] 4)
            have B3 := Blk.new V1 4 #[.bool xd]
            rw [hV2] at C2 K2 B1 B3
            have lV2 : W1.heap.size ≤ V2.heap.size := by rw [← hV2]; simp; omega
            clear hV2
            have C2 := Lib.hid (And.intro C2 K2)
            clear K2
            
            refine hK.out _ _ ?_ (fun hHeld => ?_)
            · ((try dsimp only); (try dsimp only at hHeld); exact HS.out _ C2.out.1.hb C2.out.2)
            clear hK K
            try dsimp only at hHeld
            try simp only [Act.put, List.getElem_toArray, List.getElem_cons_succ, List.getElem_cons_zero, List.setIfInBounds_toArray, List.set_cons_zero, List.set_cons_succ]
            refine wpAnyH_ready (rs := [6, 12]) (by kernel_rfl) (by simp) (AllReadyH.cons rfl (fun K hK => ?_) (AllReadyH.cons rfl (fun K hK => ?_) AllReadyH.nil))
            · skip
              refine step_append_any _ rfl (.tmp 34) (.tmp 39) 22 rfl W0.heap.size 26 i0 _ 3 32 Tryz.underlying22 hi0 hz0 hs0 hy0 rfl (by decide) u7 P1.length (vV P1) (by first | rfl | (simp [Act.eval, Act.put]; done)) C2.out.1.o1 V2.heap.size (some ⟨D0.heap.size, 0, none⟩) 1 1 [.int .u8 u.k, .int .i64 u.i, .string u.s] (by first | rfl | (simp [Act.eval, Act.put]; done)) (reads_of_blk B1 rfl rfl) (by intro y hy; simp only [List.mem_cons, List.not_mem_nil, or_false] at hy; (first | (rcases hy with rfl | rfl | rfl <;> rfl) | (subst hy; rfl))) (by unfold maxLen; omega) (by omega) C2.out.1.hb.size ?_
              intro a1 V3 own1 gr1 ob1
              have K3 := C2.out.2.grown gr1 (fun e => by have := OL.out.1 _ e.symm; omega)
              have B3 := B3.grown gr1 (fun e => by have := OL.out.1 _ e.symm; omega)
              have lV3 : W1.heap.size ≤ V3.heap.size := by have := gr1.size; omega
              have C3 := Lib.hid (And.intro (C2.out.1.push1 u own1 gr1 ob1) K3)
              clear K3 own1 gr1 ob1 B1
              refine hK.out _ _ ?_ (fun hHeld => ?_)
              · ((try dsimp only); (try dsimp only at hHeld); exact HS.out _ C3.out.1.hb C3.out.2)
              clear hK K
              try dsimp only at hHeld
              try simp only [Act.put, List.getElem_toArray, List.getElem_cons_succ, List.getElem_cons_zero, List.setIfInBounds_toArray, List.set_cons_zero, List.set_cons_succ]
              refine wpAnyH_ready (rs := [12]) (by kernel_rfl) (by simp) (AllReadyH.cons rfl (fun K hK => ?_) AllReadyH.nil)
              go_simp
              obtain ⟨V4, hV4⟩ : ∃ W, V3.alloc (.cells #[.int .u8 v.k, .int .i64 v.i, .string v.s] 26) = W := ⟨_, rfl⟩
              rw [hV4]
              have C4 := C3.out.1.alloc (.cells #[.int .u8 v.k, .int .i64 v.i, .string v.s] 26)
              have K4 := C3.out.2.alloc (.cells #[.int .u8 v.k, .int .i64 v.i, .string v.s] 26)
              have B3 := B3.alloc (.cells #[.int .u8 v.k, .int .i64 v.i, .string v.s] 26)
              have B2 := Blk.new V3 26 #[.int .u8 v.k, .int .i64 v.i, .string v.s]
              rw [hV4] at C4 K4 B3 B2
              have lV4 : W1.heap.size ≤ V4.heap.size := by rw [← hV4]; simp; omega
              clear hV4
              have C4 := Lib.hid (And.intro C4 K4)
              clear K4
              
              refine hK.out _ _ ?_ (fun hHeld => ?_)
              · ((try dsimp only); (try dsimp only at hHeld); exact HS.out _ C4.out.1.hb C4.out.2)
              clear hK K
              try dsimp only at hHeld
              try simp only [Act.put, List.getElem_toArray, List.getElem_cons_succ, List.getElem_cons_zero, List.setIfInBounds_toArray, List.set_cons_zero, List.set_cons_succ]
              refine wpAnyH_ready (rs := [13]) (by kernel_rfl) (by simp) (AllReadyH.cons rfl (fun K hK => ?_) AllReadyH.nil)
              refine step_append_any _ rfl (.tmp 41) (.tmp 46) 22 rfl W0.heap.size 26 i0 _ 3 32 Tryz.underlying22 hi0 hz0 hs0 hy0 rfl (by decide) u8 P2.length (vV P2) (by first | rfl | (simp [Act.eval, Act.put]; done)) C4.out.1.o2 V4.heap.size (some ⟨V3.heap.size, 0, none⟩) 1 1 [.int .u8 v.k, .int .i64 v.i, .string v.s] (by first | rfl | (simp [Act.eval, Act.put]; done)) (reads_of_blk B2 rfl rfl) (by intro y hy; simp only [List.mem_cons, List.not_mem_nil, or_false] at hy; (first | (rcases hy with rfl | rfl | rfl <;> rfl) | (subst hy; rfl))) (by unfold maxLen; omega) (by omega) C4.out.1.hb.size ?_
              intro a2 V5 own2 gr2 ob2
              have K5 := C4.out.2.grown gr2 (fun e => by have := OL.out.2.1 _ e.symm; omega)
              have B3 := B3.grown gr2 (fun e => by have := OL.out.2.1 _ e.symm; omega)
              have lV5 : W1.heap.size ≤ V5.heap.size := by have := gr2.size; omega
              have C5 := Lib.hid (And.intro (C4.out.1.push2 v own2 gr2 ob2) K5)
              clear K5 own2 gr2 ob2 B2
              refine hK.out _ _ ?_ (fun hHeld => ?_)
              · ((try dsimp only); (try dsimp only at hHeld); exact HS.out _ C5.out.1.hb C5.out.2)
              clear hK K
              try dsimp only at hHeld
              try simp only [Act.put, List.getElem_toArray, List.getElem_cons_succ, List.getElem_cons_zero, List.setIfInBounds_toArray, List.set_cons_zero, List.set_cons_succ]
              refine wpAnyH_ready (rs := [18]) (by kernel_rfl) (by simp) (AllReadyH.cons rfl (fun K hK => ?_) AllReadyH.nil)
              refine step_append_any _ rfl (.tmp 48) (.tmp 51) 83 rfl W0.heap.size 4 i1 _ 1 1 Tryz.underlying83 hi1 hz1 hs1 hy1 rfl (by decide) u9 P3.length (P3.map Value.bool) (by first | rfl | (simp [Act.eval, Act.put]; done)) C5.out.1.o3 V5.heap.size (some ⟨V1.heap.size, 0, none⟩) 1 1 [.bool xd] (by first | rfl | (simp [Act.eval, Act.put]; done)) (reads_of_blk B3 rfl rfl) (by intro y hy; simp only [List.mem_cons, List.not_mem_nil, or_false] at hy; (first | (rcases hy with rfl | rfl | rfl <;> rfl) | (subst hy; rfl))) (by unfold maxLen; omega) (by omega) C5.out.1.hb.size ?_
              intro a3 V6 own3 gr3 ob3
              have K6 := C5.out.2.grown gr3 (fun e => by have := OL.out.2.2 _ e.symm; omega)
              have lV6 : W1.heap.size ≤ V6.heap.size := by have := gr3.size; omega
              have C6 := Lib.hid (And.intro (C5.out.1.push3 xd own3 gr3) K6)
              clear K6 own3 gr3 ob3 B3
              refine hK.out _ _ ?_ (fun hHeld => ?_)
              · ((try dsimp only); (try dsimp only at hHeld); exact HS.out _ C6.out.1.hb C6.out.2)
              clear hK K
              try dsimp only at hHeld
              try simp only [Act.put, List.getElem_toArray, List.getElem_cons_succ, List.getElem_cons_zero, List.setIfInBounds_toArray, List.set_cons_zero, List.set_cons_succ]
              refine wpAnyH_take (i := 19) (v := ?_) rfl (by kernel_rfl) (by kernel_rfl) (by kernel_rfl) (fun _ _ _ h => h) (Or.inl ⟨rfl, ?_⟩) hHeld ?_
              rotate_left
              focus (intro wx hSw; (try dsimp only at hSw); (try go_split_ands); go_simp; (try with_reducible rfl))
              try simp only [Act.put, List.getElem_toArray, List.getElem_cons_succ, List.getElem_cons_zero, List.setIfInBounds_toArray, List.set_cons_zero, List.set_cons_succ]
              refine wpAnyH_take (i := 20) (v := ?_) rfl (by kernel_rfl) (by kernel_rfl) (by kernel_rfl) (fun _ _ _ h => h) (Or.inl ⟨rfl, ?_⟩) hHeld ?_
              rotate_left
              focus (intro wx hSw; (try dsimp only at hSw); (try go_split_ands); go_simp; (try with_reducible rfl))
              try simp only [Act.put, List.getElem_toArray, List.getElem_cons_succ, List.getElem_cons_zero, List.setIfInBounds_toArray, List.set_cons_zero, List.set_cons_succ]
              refine wpAnyH_take (i := 21) (v := ?_) rfl (by kernel_rfl) (by kernel_rfl) (by kernel_rfl) (fun _ _ _ h => h) (Or.inl ⟨rfl, ?_⟩) hHeld ?_
              rotate_left
              focus (intro wx hSw; (try dsimp only at hSw); (try go_split_ands); go_simp; (try with_reducible rfl))
              try simp only [Act.put, List.getElem_toArray, List.getElem_cons_succ, List.getElem_cons_zero, List.setIfInBounds_toArray, List.set_cons_zero, List.set_cons_succ]
              refine wpAnyH_done (by kernel_rfl) ?_ _
              clear hHeld
              have hu := HP.out.2.2.2.1
              have hv := HP.out.2.2.2.2.1
              have eu : atV a ((j : Int) + 1 - 1).toNat = u := by rw [show ((j : Int) + 1 - 1).toNat = j by omega]; simp [atV, hu]
              have evv : atV b ((j : Int) + 1 - 1).toNat = v := by rw [show ((j : Int) + 1 - 1).toNat = j by omega]; simp [atV, hv]
              have hok : okK na nb ⟨xs, (j : Int) + 1, xd⟩ = true := by unfold okK; simpa using HP.out.2.2.2.2.2
              have z1 : selL na nb a (ks.take (k + 1)) = P1 ++ [u] := by rw [HQ.out.1, hok, if_pos rfl, HP.out.1]; exact congrArg (fun z => P1 ++ [z]) eu
              have z2 : selL na nb b (ks.take (k + 1)) = P2 ++ [v] := by rw [HQ.out.2.1, hok, if_pos rfl, HP.out.2.1]; exact congrArg (fun z => P2 ++ [z]) evv
              have z3 : selD na nb (ks.take (k + 1)) = P3 ++ [xd] := by rw [HQ.out.2.2.1, hok, if_pos rfl, HP.out.2.2.1]
              have HZ := Lib.hid (And.intro z1 (And.intro z2 z3))
              clear z1 z2 z3 hok eu evv hu hv
              go_wp2
              refine ⟨⟨k + 1, by go_num, by omega, ?_⟩, by simp [intOf]; omega⟩
              rw [HZ.out.1, HZ.out.2.1, HZ.out.2.2, List.length_append, List.length_append, List.length_append]
              exact C6.out.1
            · go_simp
              obtain ⟨V3, hV3⟩ : ∃ W, V2.alloc (.cells #[.int .u8 v.k, .int .i64 v.i, .string v.s] 26) = W := ⟨_, rfl⟩
              rw [hV3]
              have C3 := C2.out.1.alloc (.cells #[.int .u8 v.k, .int .i64 v.i, .string v.s] 26)
              have K3 := C2.out.2.alloc (.cells #[.int .u8 v.k, .int .i64 v.i, .string v.s] 26)
              have B1 := B1.alloc (.cells #[.int .u8 v.k, .int .i64 v.i, .string v.s] 26)
              have B3 := B3.alloc (.cells #[.int .u8 v.k, .int .i64 v.i, .string v.s] 26)
              have B2 := Blk.new V2 26 #[.int .u8 v.k, .int .i64 v.i, .string v.s]
              rw [hV3] at C3 K3 B1 B3 B2
              have lV3 : W1.heap.size ≤ V3.heap.size := by rw [← hV3]; simp; omega
              clear hV3
              have C3 := Lib.hid (And.intro C3 K3)
              clear K3
              
              refine hK.out _ _ ?_ (fun hHeld => ?_)
              · ((try dsimp only); (try dsimp only at hHeld); exact HS.out _ C3.out.1.hb C3.out.2)
              clear hK K
              try dsimp only at hHeld
              try simp only [Act.put, List.getElem_toArray, List.getElem_cons_succ, List.getElem_cons_zero, List.setIfInBounds_toArray, List.set_cons_zero, List.set_cons_succ]
              refine wpAnyH_ready (rs := [6]) (by kernel_rfl) (by simp) (AllReadyH.cons rfl (fun K hK => ?_) AllReadyH.nil)
              refine step_append_any _ rfl (.tmp 34) (.tmp 39) 22 rfl W0.heap.size 26 i0 _ 3 32 Tryz.underlying22 hi0 hz0 hs0 hy0 rfl (by decide) u7 P1.length (vV P1) (by first | rfl | (simp [Act.eval, Act.put]; done)) C3.out.1.o1 V3.heap.size (some ⟨D0.heap.size, 0, none⟩) 1 1 [.int .u8 u.k, .int .i64 u.i, .string u.s] (by first | rfl | (simp [Act.eval, Act.put]; done)) (reads_of_blk B1 rfl rfl) (by intro y hy; simp only [List.mem_cons, List.not_mem_nil, or_false] at hy; (first | (rcases hy with rfl | rfl | rfl <;> rfl) | (subst hy; rfl))) (by unfold maxLen; omega) (by omega) C3.out.1.hb.size ?_
              intro a1 V4 own1 gr1 ob1
              have K4 := C3.out.2.grown gr1 (fun e => by have := OL.out.1 _ e.symm; omega)
              have B3 := B3.grown gr1 (fun e => by have := OL.out.1 _ e.symm; omega)
              have B2 := B2.grown gr1 (fun e => by have := OL.out.1 _ e.symm; omega)
              have lV4 : W1.heap.size ≤ V4.heap.size := by have := gr1.size; omega
              have C4 := Lib.hid (And.intro (C3.out.1.push1 u own1 gr1 ob1) K4)
              clear K4 own1 gr1 ob1 B1
              refine hK.out _ _ ?_ (fun hHeld => ?_)
              · ((try dsimp only); (try dsimp only at hHeld); exact HS.out _ C4.out.1.hb C4.out.2)
              clear hK K
              try dsimp only at hHeld
              try simp only [Act.put, List.getElem_toArray, List.getElem_cons_succ, List.getElem_cons_zero, List.setIfInBounds_toArray, List.set_cons_zero, List.set_cons_succ]
              refine wpAnyH_ready (rs := [13]) (by kernel_rfl) (by simp) (AllReadyH.cons rfl (fun K hK => ?_) AllReadyH.nil)
              refine step_append_any _ rfl (.tmp 41) (.tmp 46) 22 rfl W0.heap.size 26 i0 _ 3 32 Tryz.underlying22 hi0 hz0 hs0 hy0 rfl (by decide) u8 P2.length (vV P2) (by first | rfl | (simp [Act.eval, Act.put]; done)) C4.out.1.o2 V4.heap.size (some ⟨V2.heap.size, 0, none⟩) 1 1 [.int .u8 v.k, .int .i64 v.i, .string v.s] (by first | rfl | (simp [Act.eval, Act.put]; done)) (reads_of_blk B2 rfl rfl) (by intro y hy; simp only [List.mem_cons, List.not_mem_nil, or_false] at hy; (first | (rcases hy with rfl | rfl | rfl <;> rfl) | (subst hy; rfl))) (by unfold maxLen; omega) (by omega) C4.out.1.hb.size ?_
              intro a2 V5 own2 gr2 ob2
              have K5 := C4.out.2.grown gr2 (fun e => by have := OL.out.2.1 _ e.symm; omega)
              have B3 := B3.grown gr2 (fun e => by have := OL.out.2.1 _ e.symm; omega)
              have lV5 : W1.heap.size ≤ V5.heap.size := by have := gr2.size; omega
              have C5 := Lib.hid (And.intro (C4.out.1.push2 v own2 gr2 ob2) K5)
              clear K5 own2 gr2 ob2 B2
              refine hK.out _ _ ?_ (fun hHeld => ?_)
              · ((try dsimp only); (try dsimp only at hHeld); exact HS.out _ C5.out.1.hb C5.out.2)
              clear hK K
              try dsimp only at hHeld
              try simp only [Act.put, List.getElem_toArray, List.getElem_cons_succ, List.getElem_cons_zero, List.setIfInBounds_toArray, List.set_cons_zero, List.set_cons_succ]
              refine wpAnyH_ready (rs := [18]) (by kernel_rfl) (by simp) (AllReadyH.cons rfl (fun K hK => ?_) AllReadyH.nil)
              refine step_append_any _ rfl (.tmp 48) (.tmp 51) 83 rfl W0.heap.size 4 i1 _ 1 1 Tryz.underlying83 hi1 hz1 hs1 hy1 rfl (by decide) u9 P3.length (P3.map Value.bool) (by first | rfl | (simp [Act.eval, Act.put]; done)) C5.out.1.o3 V5.heap.size (some ⟨V1.heap.size, 0, none⟩) 1 1 [.bool xd] (by first | rfl | (simp [Act.eval, Act.put]; done)) (reads_of_blk B3 rfl rfl) (by intro y hy; simp only [List.mem_cons, List.not_mem_nil, or_false] at hy; (first | (rcases hy with rfl | rfl | rfl <;> rfl) | (subst hy; rfl))) (by unfold maxLen; omega) (by omega) C5.out.1.hb.size ?_
              intro a3 V6 own3 gr3 ob3
              have K6 := C5.out.2.grown gr3 (fun e => by have := OL.out.2.2 _ e.symm; omega)
              have lV6 : W1.heap.size ≤ V6.heap.size := by have := gr3.size; omega
              have C6 := Lib.hid (And.intro (C5.out.1.push3 xd own3 gr3) K6)
              clear K6 own3 gr3 ob3 B3
              refine hK.out _ _ ?_ (fun hHeld => ?_)
              · ((try dsimp only); (try dsimp only at hHeld); exact HS.out _ C6.out.1.hb C6.out.2)
              clear hK K
              try dsimp only at hHeld
              try simp only [Act.put, List.getElem_toArray, List.getElem_cons_succ, List.getElem_cons_zero, List.setIfInBounds_toArray, List.set_cons_zero, List.set_cons_succ]
              refine wpAnyH_take (i := 19) (v := ?_) rfl (by kernel_rfl) (by kernel_rfl) (by kernel_rfl) (fun _ _ _ h => h) (Or.inl ⟨rfl, ?_⟩) hHeld ?_
              rotate_left
              focus (intro wx hSw; (try dsimp only at hSw); (try go_split_ands); go_simp; (try with_reducible rfl))
              try simp only [Act.put, List.getElem_toArray, List.getElem_cons_succ, List.getElem_cons_zero, List.setIfInBounds_toArray, List.set_cons_zero, List.set_cons_succ]
              refine wpAnyH_take (i := 20) (v := ?_) rfl (by kernel_rfl) (by kernel_rfl) (by kernel_rfl) (fun _ _ _ h => h) (Or.inl ⟨rfl, ?_⟩) hHeld ?_
              rotate_left
              focus (intro wx hSw; (try dsimp only at hSw); (try go_split_ands); go_simp; (try with_reducible rfl))
              try simp only [Act.put, List.getElem_toArray, List.getElem_cons_succ, List.getElem_cons_zero, List.setIfInBounds_toArray, List.set_cons_zero, List.set_cons_succ]
              refine wpAnyH_take (i := 21) (v := ?_) rfl (by kernel_rfl) (by kernel_rfl) (by kernel_rfl) (fun _ _ _ h => h) (Or.inl ⟨rfl, ?_⟩) hHeld ?_
              rotate_left
              focus (intro wx hSw; (try dsimp only at hSw); (try go_split_ands); go_simp; (try with_reducible rfl))
              try simp only [Act.put, List.getElem_toArray, List.getElem_cons_succ, List.getElem_cons_zero, List.setIfInBounds_toArray, List.set_cons_zero, List.set_cons_succ]
              refine wpAnyH_done (by kernel_rfl) ?_ _
              clear hHeld
              have hu := HP.out.2.2.2.1
              have hv := HP.out.2.2.2.2.1
              have eu : atV a ((j : Int) + 1 - 1).toNat = u := by rw [show ((j : Int) + 1 - 1).toNat = j by omega]; simp [atV, hu]
              have evv : atV b ((j : Int) + 1 - 1).toNat = v := by rw [show ((j : Int) + 1 - 1).toNat = j by omega]; simp [atV, hv]
              have hok : okK na nb ⟨xs, (j : Int) + 1, xd⟩ = true := by unfold okK; simpa using HP.out.2.2.2.2.2
              have z1 : selL na nb a (ks.take (k + 1)) = P1 ++ [u] := by rw [HQ.out.1, hok, if_pos rfl, HP.out.1]; exact congrArg (fun z => P1 ++ [z]) eu
              have z2 : selL na nb b (ks.take (k + 1)) = P2 ++ [v] := by rw [HQ.out.2.1, hok, if_pos rfl, HP.out.2.1]; exact congrArg (fun z => P2 ++ [z]) evv
              have z3 : selD na nb (ks.take (k + 1)) = P3 ++ [xd] := by rw [HQ.out.2.2.1, hok, if_pos rfl, HP.out.2.2.1]
              have HZ := Lib.hid (And.intro z1 (And.intro z2 z3))
              clear z1 z2 z3 hok eu evv hu hv
              go_wp2
              refine ⟨⟨k + 1, by go_num, by omega, ?_⟩, by simp [intOf]; omega⟩
              rw [HZ.out.1, HZ.out.2.1, HZ.out.2.2, List.length_append, List.length_append, List.length_append]
              exact C6.out.1
        · go_simp
          obtain ⟨V1, hV1⟩ : ∃ W, D0.alloc (.cells #[.int .u8 v.k, .int .i64 v.i, .string v.s] 26) = W := ⟨_, rfl⟩
          rw [hV1]
          have C1 := C0.out.1.alloc (.cells #[.int .u8 v.k, .int .i64 v.i, .string v.s] 26)
          have K1 := C0.out.2.alloc (.cells #[.int .u8 v.k, .int .i64 v.i, .string v.s] 26)
          have B2 := Blk.new D0 26 #[.int .u8 v.k, .int .i64 v.i, .string v.s]
          rw [hV1] at C1 K1 B2
          have lV1 : W1.heap.size ≤ V1.heap.size := by rw [← hV1]; simp; omega
          clear hV1
          have C1 := Lib.hid (And.intro C1 K1)
          clear K1
          
          refine hK.out _ _ ?_ (fun hHeld => ?_)
          · ((try dsimp only); (try dsimp only at hHeld); exact HS.out _ C1.out.1.hb C1.out.2)
          clear hK K
          try dsimp only at hHeld
          try simp only [Act.put, List.getElem_toArray, List.getElem_cons_succ, List.getElem_cons_zero, List.setIfInBounds_toArray, List.set_cons_zero, List.set_cons_succ]
          refine wpAnyH_ready (rs := [5, 17]) (by kernel_rfl) (by simp) (AllReadyH.cons rfl (fun K hK => ?_) (AllReadyH.cons rfl (fun K hK => ?_) AllReadyH.nil))
          · go_simp
            obtain ⟨V2, hV2⟩ : ∃ W, V1.alloc (.cells #[.int .u8 u.k, .int .i64 u.i, .string u.s] 26) = W := ⟨_, rfl⟩
            rw [hV2]
            have C2 := C1.out.1.alloc (.cells #[.int .u8 u.k, .int .i64 u.i, .string u.s] 26)
            have K2 := C1.out.2.alloc (.cells #[.int .u8 u.k, .int .i64 u.i, .string u.s] 26)
            have B2 := B2.alloc (.cells #[.int .u8 u.k, .int .i64 u.i, .string u.s] 26)
            have B1 := Blk.new V1 26 #[.int .u8 u.k, .int .i64 u.i, .string u.s]
            rw [hV2] at C2 K2 B2 B1
            have lV2 : W1.heap.size ≤ V2.heap.size := by rw [← hV2]; simp; omega
            clear hV2
            have C2 := Lib.hid (And.intro C2 K2)
            clear K2
            
            refine hK.out _ _ ?_ (fun hHeld => ?_)
            · ((try dsimp only); (try dsimp only at hHeld); exact HS.out _ C2.out.1.hb C2.out.2)
            clear hK K
            try dsimp only at hHeld
            try simp only [Act.put, List.getElem_toArray, List.getElem_cons_succ, List.getElem_cons_zero, List.setIfInBounds_toArray, List.set_cons_zero, List.set_cons_succ]
            refine wpAnyH_ready (rs := [6, 17]) (by kernel_rfl) (by simp) (AllReadyH.cons rfl (fun K hK => ?_) (AllReadyH.cons rfl (fun K hK => ?_) AllReadyH.nil))
            · skip
              refine step_append_any _ rfl (.tmp 34) (.tmp 39) 22 rfl W0.heap.size 26 i0 _ 3 32 Tryz.underlying22 hi0 hz0 hs0 hy0 rfl (by decide) u7 P1.length (vV P1) (by first | rfl | (simp [Act.eval, Act.put]; done)) C2.out.1.o1 V2.heap.size (some ⟨V1.heap.size, 0, none⟩) 1 1 [.int .u8 u.k, .int .i64 u.i, .string u.s] (by first | rfl | (simp [Act.eval, Act.put]; done)) (reads_of_blk B1 rfl rfl) (by intro y hy; simp only [List.mem_cons, List.not_mem_nil, or_false] at hy; (first | (rcases hy with rfl | rfl | rfl <;> rfl) | (subst hy; rfl))) (by unfold maxLen; omega) (by omega) C2.out.1.hb.size ?_
              intro a1 V3 own1 gr1 ob1
              have K3 := C2.out.2.grown gr1 (fun e => by have := OL.out.1 _ e.symm; omega)
              have B2 := B2.grown gr1 (fun e => by have := OL.out.1 _ e.symm; omega)
              have lV3 : W1.heap.size ≤ V3.heap.size := by have := gr1.size; omega
              have C3 := Lib.hid (And.intro (C2.out.1.push1 u own1 gr1 ob1) K3)
              clear K3 own1 gr1 ob1 B1
              refine hK.out _ _ ?_ (fun hHeld => ?_)
              · ((try dsimp only); (try dsimp only at hHeld); exact HS.out _ C3.out.1.hb C3.out.2)
              clear hK K
              try dsimp only at hHeld
              try simp only [Act.put, List.getElem_toArray, List.getElem_cons_succ, List.getElem_cons_zero, List.setIfInBounds_toArray, List.set_cons_zero, List.set_cons_succ]
              refine wpAnyH_ready (rs := [13, 17]) (by kernel_rfl) (by simp) (AllReadyH.cons rfl (fun K hK => ?_) (AllReadyH.cons rfl (fun K hK => ?_) AllReadyH.nil))
              · skip
                refine step_append_any _ rfl (.tmp 41) (.tmp 46) 22 rfl W0.heap.size 26 i0 _ 3 32 Tryz.underlying22 hi0 hz0 hs0 hy0 rfl (by decide) u8 P2.length (vV P2) (by first | rfl | (simp [Act.eval, Act.put]; done)) C3.out.1.o2 V3.heap.size (some ⟨D0.heap.size, 0, none⟩) 1 1 [.int .u8 v.k, .int .i64 v.i, .string v.s] (by first | rfl | (simp [Act.eval, Act.put]; done)) (reads_of_blk B2 rfl rfl) (by intro y hy; simp only [List.mem_cons, List.not_mem_nil, or_false] at hy; (first | (rcases hy with rfl | rfl | rfl <;> rfl) | (subst hy; rfl))) (by unfold maxLen; omega) (by omega) C3.out.1.hb.size ?_
                intro a2 V4 own2 gr2 ob2
                have K4 := C3.out.2.grown gr2 (fun e => by have := OL.out.2.1 _ e.symm; omega)
                have lV4 : W1.heap.size ≤ V4.heap.size := by have := gr2.size; omega
                have C4 := Lib.hid (And.intro (C3.out.1.push2 v own2 gr2 ob2) K4)
                clear K4 own2 gr2 ob2 B2
                refine hK.out _ _ ?_ (fun hHeld => ?_)
                · ((try dsimp only); (try dsimp only at hHeld); exact HS.out _ C4.out.1.hb C4.out.2)
                clear hK K
                try dsimp only at hHeld
                try simp only [Act.put, List.getElem_toArray, List.getElem_cons_succ, List.getElem_cons_zero, List.setIfInBounds_toArray, List.set_cons_zero, List.set_cons_succ]
                refine wpAnyH_ready (rs := [17]) (by kernel_rfl) (by simp) (AllReadyH.cons rfl (fun K hK => ?_) AllReadyH.nil)
                go_simp
                obtain ⟨V5, hV5⟩ : ∃ W, V4.alloc (.cells #[.bool xd] 4) = W := ⟨_, rfl⟩
                rw [hV5]
                have C5 := C4.out.1.alloc (.cells #[.bool xd] 4)
                have K5 := C4.out.2.alloc (.cells #[.bool xd] 4)
                have B3 := Blk.new V4 4 #[.bool xd]
                rw [hV5] at C5 K5 B3
                have lV5 : W1.heap.size ≤ V5.heap.size := by rw [← hV5]; simp; omega
                clear hV5
                have C5 := Lib.hid (And.intro C5 K5)
                clear K5
                
                refine hK.out _ _ ?_ (fun hHeld => ?_)
                · ((try dsimp only); (try dsimp only at hHeld); exact HS.out _ C5.out.1.hb C5.out.2)
                clear hK K
                try dsimp only at hHeld
                try simp only [Act.put, List.getElem_toArray, List.getElem_cons_succ, List.getElem_cons_zero, List.setIfInBounds_toArray, List.set_cons_zero, List.set_cons_succ]
                refine wpAnyH_ready (rs := [18]) (by kernel_rfl) (by simp) (AllReadyH.cons rfl (fun K hK => ?_) AllReadyH.nil)
                refine step_append_any _ rfl (.tmp 48) (.tmp 51) 83 rfl W0.heap.size 4 i1 _ 1 1 Tryz.underlying83 hi1 hz1 hs1 hy1 rfl (by decide) u9 P3.length (P3.map Value.bool) (by first | rfl | (simp [Act.eval, Act.put]; done)) C5.out.1.o3 V5.heap.size (some ⟨V4.heap.size, 0, none⟩) 1 1 [.bool xd] (by first | rfl | (simp [Act.eval, Act.put]; done)) (reads_of_blk B3 rfl rfl) (by intro y hy; simp only [List.mem_cons, List.not_mem_nil, or_false] at hy; (first | (rcases hy with rfl | rfl | rfl <;> rfl) | (subst hy; rfl))) (by unfold maxLen; omega) (by omega) C5.out.1.hb.size ?_
                intro a3 V6 own3 gr3 ob3
                have K6 := C5.out.2.grown gr3 (fun e => by have := OL.out.2.2 _ e.symm; omega)
                have lV6 : W1.heap.size ≤ V6.heap.size := by have := gr3.size; omega
                have C6 := Lib.hid (And.intro (C5.out.1.push3 xd own3 gr3) K6)
                clear K6 own3 gr3 ob3 B3
                refine hK.out _ _ ?_ (fun hHeld => ?_)
                · ((try dsimp only); (try dsimp only at hHeld); exact HS.out _ C6.out.1.hb C6.out.2)
                clear hK K
                try dsimp only at hHeld
                try simp only [Act.put, List.getElem_toArray, List.getElem_cons_succ, List.getElem_cons_zero, List.setIfInBounds_toArray, List.set_cons_zero, List.set_cons_succ]
                refine wpAnyH_take (i := 19) (v := ?_) rfl (by kernel_rfl) (by kernel_rfl) (by kernel_rfl) (fun _ _ _ h => h) (Or.inl ⟨rfl, ?_⟩) hHeld ?_
                rotate_left
                focus (intro wx hSw; (try dsimp only at hSw); (try go_split_ands); go_simp; (try with_reducible rfl))
                try simp only [Act.put, List.getElem_toArray, List.getElem_cons_succ, List.getElem_cons_zero, List.setIfInBounds_toArray, List.set_cons_zero, List.set_cons_succ]
                refine wpAnyH_take (i := 20) (v := ?_) rfl (by kernel_rfl) (by kernel_rfl) (by kernel_rfl) (fun _ _ _ h => h) (Or.inl ⟨rfl, ?_⟩) hHeld ?_
                rotate_left
                focus (intro wx hSw; (try dsimp only at hSw); (try go_split_ands); go_simp; (try with_reducible rfl))
                try simp only [Act.put, List.getElem_toArray, List.getElem_cons_succ, List.getElem_cons_zero, List.setIfInBounds_toArray, List.set_cons_zero, List.set_cons_succ]
                refine wpAnyH_take (i := 21) (v := ?_) rfl (by kernel_rfl) (by kernel_rfl) (by kernel_rfl) (fun _ _ _ h => h) (Or.inl ⟨rfl, ?_⟩) hHeld ?_
                rotate_left
                focus (intro wx hSw; (try dsimp only at hSw); (try go_split_ands); go_simp; (try with_reducible rfl))
                try simp only [Act.put, List.getElem_toArray, List.getElem_cons_succ, List.getElem_cons_zero, List.setIfInBounds_toArray, List.set_cons_zero, List.set_cons_succ]
                refine wpAnyH_done (by kernel_rfl) ?_ _
                clear hHeld
                have hu := HP.out.2.2.2.1
                have hv := HP.out.2.2.2.2.1
                have eu : atV a ((j : Int) + 1 - 1).toNat = u := by rw [show ((j : Int) + 1 - 1).toNat = j by omega]; simp [atV, hu]
                have evv : atV b ((j : Int) + 1 - 1).toNat = v := by rw [show ((j : Int) + 1 - 1).toNat = j by omega]; simp [atV, hv]
                have hok : okK na nb ⟨xs, (j : Int) + 1, xd⟩ = true := by unfold okK; simpa using HP.out.2.2.2.2.2
                have z1 : selL na nb a (ks.take (k + 1)) = P1 ++ [u] := by rw [HQ.out.1, hok, if_pos rfl, HP.out.1]; exact congrArg (fun z => P1 ++ [z]) eu
                have z2 : selL na nb b (ks.take (k + 1)) = P2 ++ [v] := by rw [HQ.out.2.1, hok, if_pos rfl, HP.out.2.1]; exact congrArg (fun z => P2 ++ [z]) evv
                have z3 : selD na nb (ks.take (k + 1)) = P3 ++ [xd] := by rw [HQ.out.2.2.1, hok, if_pos rfl, HP.out.2.2.1]
                have HZ := Lib.hid (And.intro z1 (And.intro z2 z3))
                clear z1 z2 z3 hok eu evv hu hv
                go_wp2
                refine ⟨⟨k + 1, by go_num, by omega, ?_⟩, by simp [intOf]; omega⟩
                rw [HZ.out.1, HZ.out.2.1, HZ.out.2.2, List.length_append, List.length_append, List.length_append]
                exact C6.out.1
              · go_simp
                obtain ⟨V4, hV4⟩ : ∃ W, V3.alloc (.cells #[.bool xd] 4) = W := ⟨_, rfl⟩
                rw [hV4]
                have C4 := C3.out.1.alloc (.cells #[.bool xd] 4)
                have K4 := C3.out.2.alloc (.cells #[.bool xd] 4)
                have B2 := B2.alloc (.cells #[.bool xd] 4)
                have B3 := Blk.new V3 4 #[.bool xd]
                rw [hV4] at C4 K4 B2 B3
                have lV4 : W1.heap.size ≤ V4.heap.size := by rw [← hV4]; simp; omega
                clear hV4
                have C4 := Lib.hid (And.intro C4 K4)
                clear K4
                
                refine hK.out _ _ ?_ (fun hHeld => ?_)
                · ((try dsimp only); (try dsimp only at hHeld); exact HS.out _ C4.out.1.hb C4.out.2)
                clear hK K
                try dsimp only at hHeld
                try simp only [Act.put, List.getElem_toArray, List.getElem_cons_succ, List.getElem_cons_zero, List.setIfInBounds_toArray, List.set_cons_zero, List.set_cons_succ]
                refine wpAnyH_ready (rs := [13]) (by kernel_rfl) (by simp) (AllReadyH.cons rfl (fun K hK => ?_) AllReadyH.nil)
                refine step_append_any _ rfl (.tmp 41) (.tmp 46) 22 rfl W0.heap.size 26 i0 _ 3 32 Tryz.underlying22 hi0 hz0 hs0 hy0 rfl (by decide) u8 P2.length (vV P2) (by first | rfl | (simp [Act.eval, Act.put]; done)) C4.out.1.o2 V4.heap.size (some ⟨D0.heap.size, 0, none⟩) 1 1 [.int .u8 v.k, .int .i64 v.i, .string v.s] (by first | rfl | (simp [Act.eval, Act.put]; done)) (reads_of_blk B2 rfl rfl) (by intro y hy; simp only [List.mem_cons, List.not_mem_nil, or_false] at hy; (first | (rcases hy with rfl | rfl | rfl <;> rfl) | (subst hy; rfl))) (by unfold maxLen; omega) (by omega) C4.out.1.hb.size ?_
                intro a2 V5 own2 gr2 ob2
                have K5 := C4.out.2.grown gr2 (fun e => by have := OL.out.2.1 _ e.symm; omega)
                have B3 := B3.grown gr2 (fun e => by have := OL.out.2.1 _ e.symm; omega)
                have lV5 : W1.heap.size ≤ V5.heap.size := by have := gr2.size; omega
                have C5 := Lib.hid (And.intro (C4.out.1.push2 v own2 gr2 ob2) K5)
                clear K5 own2 gr2 ob2 B2
                refine hK.out _ _ ?_ (fun hHeld => ?_)
                · ((try dsimp only); (try dsimp only at hHeld); exact HS.out _ C5.out.1.hb C5.out.2)
                clear hK K
                try dsimp only at hHeld
                try simp only [Act.put, List.getElem_toArray, List.getElem_cons_succ, List.getElem_cons_zero, List.setIfInBounds_toArray, List.set_cons_zero, List.set_cons_succ]
                refine wpAnyH_ready (rs := [18]) (by kernel_rfl) (by simp) (AllReadyH.cons rfl (fun K hK => ?_) AllReadyH.nil)
                refine step_append_any _ rfl (.tmp 48) (.tmp 51) 83 rfl W0.heap.size 4 i1 _ 1 1 Tryz.underlying83 hi1 hz1 hs1 hy1 rfl (by decide) u9 P3.length (P3.map Value.bool) (by first | rfl | (simp [Act.eval, Act.put]; done)) C5.out.1.o3 V5.heap.size (some ⟨V3.heap.size, 0, none⟩) 1 1 [.bool xd] (by first | rfl | (simp [Act.eval, Act.put]; done)) (reads_of_blk B3 rfl rfl) (by intro y hy; simp only [List.mem_cons, List.not_mem_nil, or_false] at hy; (first | (rcases hy with rfl | rfl | rfl <;> rfl) | (subst hy; rfl))) (by unfold maxLen; omega) (by omega) C5.out.1.hb.size ?_
                intro a3 V6 own3 gr3 ob3
                have K6 := C5.out.2.grown gr3 (fun e => by have := OL.out.2.2 _ e.symm; omega)
                have lV6 : W1.heap.size ≤ V6.heap.size := by have := gr3.size; omega
                have C6 := Lib.hid (And.intro (C5.out.1.push3 xd own3 gr3) K6)
                clear K6 own3 gr3 ob3 B3
                refine hK.out _ _ ?_ (fun hHeld => ?_)
                · ((try dsimp only); (try dsimp only at hHeld); exact HS.out _ C6.out.1.hb C6.out.2)
                clear hK K
                try dsimp only at hHeld
                try simp only [Act.put, List.getElem_toArray, List.getElem_cons_succ, List.getElem_cons_zero, List.setIfInBounds_toArray, List.set_cons_zero, List.set_cons_succ]
                refine wpAnyH_take (i := 19) (v := ?_) rfl (by kernel_rfl) (by kernel_rfl) (by kernel_rfl) (fun _ _ _ h => h) (Or.inl ⟨rfl, ?_⟩) hHeld ?_
                rotate_left
                focus (intro wx hSw; (try dsimp only at hSw); (try go_split_ands); go_simp; (try with_reducible rfl))
                try simp only [Act.put, List.getElem_toArray, List.getElem_cons_succ, List.getElem_cons_zero, List.setIfInBounds_toArray, List.set_cons_zero, List.set_cons_succ]
                refine wpAnyH_take (i := 20) (v := ?_) rfl (by kernel_rfl) (by kernel_rfl) (by kernel_rfl) (fun _ _ _ h => h) (Or.inl ⟨rfl, ?_⟩) hHeld ?_
                rotate_left
                focus (intro wx hSw; (try dsimp only at hSw); (try go_split_ands); go_simp; (try with_reducible rfl))
                try simp only [Act.put, List.getElem_toArray, List.getElem_cons_succ, List.getElem_cons_zero, List.setIfInBounds_toArray, List.set_cons_zero, List.set_cons_succ]
                refine wpAnyH_take (i := 21) (v := ?_) rfl (by kernel_rfl) (by kernel_rfl) (by kernel_rfl) (fun _ _ _ h => h) (Or.inl ⟨rfl, ?_⟩) hHeld ?_
                rotate_left
                focus (intro wx hSw; (try dsimp only at hSw); (try go_split_ands); go_simp; (try with_reducible rfl))
                try simp only [Act.put, List.getElem_toArray, List.getElem_cons_succ, List.getElem_cons_zero, List.setIfInBounds_toArray, List.set_cons_zero, List.set_cons_succ]
                refine wpAnyH_done (by kernel_rfl) ?_ _
                clear hHeld
                have hu := HP.out.2.2.2.1
                have hv := HP.out.2.2.2.2.1
                have eu : atV a ((j : Int) + 1 - 1).toNat = u := by rw [show ((j : Int) + 1 - 1).toNat = j by omega]; simp [atV, hu]
                have evv : atV b ((j : Int) + 1 - 1).toNat = v := by rw [show ((j : Int) + 1 - 1).toNat = j by omega]; simp [atV, hv]
                have hok : okK na nb ⟨xs, (j : Int) + 1, xd⟩ = true := by unfold okK; simpa using HP.out.2.2.2.2.2
                have z1 : selL na nb a (ks.take (k + 1)) = P1 ++ [u] := by rw [HQ.out.1, hok, if_pos rfl, HP.out.1]; exact congrArg (fun z => P1 ++ [z]) eu
                have z2 : selL na nb b (ks.take (k + 1)) = P2 ++ [v] := by rw [HQ.out.2.1, hok, if_pos rfl, HP.out.2.1]; exact congrArg (fun z => P2 ++ [z]) evv
                have z3 : selD na nb (ks.take (k + 1)) = P3 ++ [xd] := by rw [HQ.out.2.2.1, hok, if_pos rfl, HP.out.2.2.1]
                have HZ := Lib.hid (And.intro z1 (And.intro z2 z3))
                clear z1 z2 z3 hok eu evv hu hv
                go_wp2
                refine ⟨⟨k + 1, by go_num, by omega, ?_⟩, by simp [intOf]; omega⟩
                rw [HZ.out.1, HZ.out.2.1, HZ.out.2.2, List.length_append, List.length_append, List.length_append]
                exact C6.out.1
            · go_simp
              obtain ⟨V3, hV3⟩ : ∃ W, V2.alloc (.cells #[.bool xd] 4) = W := ⟨_, rfl⟩
              rw [hV3]
              have C3 := C2.out.1.alloc (.cells #[.bool xd] 4)
              have K3 := C2.out.2.alloc (.cells #[.bool xd] 4)
              have B2 := B2.alloc (.cells #[.bool xd] 4)
              have B1 := B1.alloc (.cells #[.bool xd] 4)
              have B3 := Blk.new V2 4 #[.bool xd]
              rw [hV3] at C3 K3 B2 B1 B3
              have lV3 : W1.heap.size ≤ V3.heap.size := by rw [← hV3]; simp; omega
              clear hV3
              have C3 := Lib.hid (And.intro C3 K3)
              clear K3
              
              refine hK.out _ _ ?_ (fun hHeld => ?_)
              · ((try dsimp only); (try dsimp only at hHeld); exact HS.out _ C3.out.1.hb C3.out.2)
              clear hK K
              try dsimp only at hHeld
              try simp only [Act.put, List.getElem_toArray, List.getElem_cons_succ, List.getElem_cons_zero, List.setIfInBounds_toArray, List.set_cons_zero, List.set_cons_succ]
              refine wpAnyH_ready (rs := [6]) (by kernel_rfl) (by simp) (AllReadyH.cons rfl (fun K hK => ?_) AllReadyH.nil)
              refine step_append_any _ rfl (.tmp 34) (.tmp 39) 22 rfl W0.heap.size 26 i0 _ 3 32 Tryz.underlying22 hi0 hz0 hs0 hy0 rfl (by decide) u7 P1.length (vV P1) (by first | rfl | (simp [Act.eval, Act.put]; done)) C3.out.1.o1 V3.heap.size (some ⟨V1.heap.size, 0, none⟩) 1 1 [.int .u8 u.k, .int .i64 u.i, .string u.s] (by first | rfl | (simp [Act.eval, Act.put]; done)) (reads_of_blk B1 rfl rfl) (by intro y hy; simp only [List.mem_cons, List.not_mem_nil, or_false] at hy; (first | (rcases hy with rfl | rfl | rfl <;> rfl) | (subst hy; rfl))) (by unfold maxLen; omega) (by omega) C3.out.1.hb.size ?_
              intro a1 V4 own1 gr1 ob1
              have K4 := C3.out.2.grown gr1 (fun e => by have := OL.out.1 _ e.symm; omega)
              have B2 := B2.grown gr1 (fun e => by have := OL.out.1 _ e.symm; omega)
              have B3 := B3.grown gr1 (fun e => by have := OL.out.1 _ e.symm; omega)
              have lV4 : W1.heap.size ≤ V4.heap.size := by have := gr1.size; omega
              have C4 := Lib.hid (And.intro (C3.out.1.push1 u own1 gr1 ob1) K4)
              clear K4 own1 gr1 ob1 B1
              refine hK.out _ _ ?_ (fun hHeld => ?_)
              · ((try dsimp only); (try dsimp only at hHeld); exact HS.out _ C4.out.1.hb C4.out.2)
              clear hK K
              try dsimp only at hHeld
              try simp only [Act.put, List.getElem_toArray, List.getElem_cons_succ, List.getElem_cons_zero, List.setIfInBounds_toArray, List.set_cons_zero, List.set_cons_succ]
              refine wpAnyH_ready (rs := [13]) (by kernel_rfl) (by simp) (AllReadyH.cons rfl (fun K hK => ?_) AllReadyH.nil)
              refine step_append_any _ rfl (.tmp 41) (.tmp 46) 22 rfl W0.heap.size 26 i0 _ 3 32 Tryz.underlying22 hi0 hz0 hs0 hy0 rfl (by decide) u8 P2.length (vV P2) (by first | rfl | (simp [Act.eval, Act.put]; done)) C4.out.1.o2 V4.heap.size (some ⟨D0.heap.size, 0, none⟩) 1 1 [.int .u8 v.k, .int .i64 v.i, .string v.s] (by first | rfl | (simp [Act.eval, Act.put]; done)) (reads_of_blk B2 rfl rfl) (by intro y hy; simp only [List.mem_cons, List.not_mem_nil, or_false] at hy; (first | (rcases hy with rfl | rfl | rfl <;> rfl) | (subst hy; rfl))) (by unfold maxLen; omega) (by omega) C4.out.1.hb.size ?_
              intro a2 V5 own2 gr2 ob2
              have K5 := C4.out.2.grown gr2 (fun e => by have := OL.out.2.1 _ e.symm; omega)
              have B3 := B3.grown gr2 (fun e => by have := OL.out.2.1 _ e.symm; omega)
              have lV5 : W1.heap.size ≤ V5.heap.size := by have := gr2.size; omega
              have C5 := Lib.hid (And.intro (C4.out.1.push2 v own2 gr2 ob2) K5)
              clear K5 own2 gr2 ob2 B2
              refine hK.out _ _ ?_ (fun hHeld => ?_)
              · ((try dsimp only); (try dsimp only at hHeld); exact HS.out _ C5.out.1.hb C5.out.2)
              clear hK K
              try dsimp only at hHeld
              try simp only [Act.put, List.getElem_toArray, List.getElem_cons_succ, List.getElem_cons_zero, List.setIfInBounds_toArray, List.set_cons_zero, List.set_cons_succ]
              refine wpAnyH_ready (rs := [18]) (by kernel_rfl) (by simp) (AllReadyH.cons rfl (fun K hK => ?_) AllReadyH.nil)
              refine step_append_any _ rfl (.tmp 48) (.tmp 51) 83 rfl W0.heap.size 4 i1 _ 1 1 Tryz.underlying83 hi1 hz1 hs1 hy1 rfl (by decide) u9 P3.length (P3.map Value.bool) (by first | rfl | (simp [Act.eval, Act.put]; done)) C5.out.1.o3 V5.heap.size (some ⟨V2.heap.size, 0, none⟩) 1 1 [.bool xd] (by first | rfl | (simp [Act.eval, Act.put]; done)) (reads_of_blk B3 rfl rfl) (by intro y hy; simp only [List.mem_cons, List.not_mem_nil, or_false] at hy; (first | (rcases hy with rfl | rfl | rfl <;> rfl) | (subst hy; rfl))) (by unfold maxLen; omega) (by omega) C5.out.1.hb.size ?_
              intro a3 V6 own3 gr3 ob3
              have K6 := C5.out.2.grown gr3 (fun e => by have := OL.out.2.2 _ e.symm; omega)
              have lV6 : W1.heap.size ≤ V6.heap.size := by have := gr3.size; omega
              have C6 := Lib.hid (And.intro (C5.out.1.push3 xd own3 gr3) K6)
              clear K6 own3 gr3 ob3 B3
              refine hK.out _ _ ?_ (fun hHeld => ?_)
              · ((try dsimp only); (try dsimp only at hHeld); exact HS.out _ C6.out.1.hb C6.out.2)
              clear hK K
              try dsimp only at hHeld
              try simp only [Act.put, List.getElem_toArray, List.getElem_cons_succ, List.getElem_cons_zero, List.setIfInBounds_toArray, List.set_cons_zero, List.set_cons_succ]
              refine wpAnyH_take (i := 19) (v := ?_) rfl (by kernel_rfl) (by kernel_rfl) (by kernel_rfl) (fun _ _ _ h => h) (Or.inl ⟨rfl, ?_⟩) hHeld ?_
              rotate_left
              focus (intro wx hSw; (try dsimp only at hSw); (try go_split_ands); go_simp; (try with_reducible rfl))
              try simp only [Act.put, List.getElem_toArray, List.getElem_cons_succ, List.getElem_cons_zero, List.setIfInBounds_toArray, List.set_cons_zero, List.set_cons_succ]
              refine wpAnyH_take (i := 20) (v := ?_) rfl (by kernel_rfl) (by kernel_rfl) (by kernel_rfl) (fun _ _ _ h => h) (Or.inl ⟨rfl, ?_⟩) hHeld ?_
              rotate_left
              focus (intro wx hSw; (try dsimp only at hSw); (try go_split_ands); go_simp; (try with_reducible rfl))
              try simp only [Act.put, List.getElem_toArray, List.getElem_cons_succ, List.getElem_cons_zero, List.setIfInBounds_toArray, List.set_cons_zero, List.set_cons_succ]
              refine wpAnyH_take (i := 21) (v := ?_) rfl (by kernel_rfl) (by kernel_rfl) (by kernel_rfl) (fun _ _ _ h => h) (Or.inl ⟨rfl, ?_⟩) hHeld ?_
              rotate_left
              focus (intro wx hSw; (try dsimp only at hSw); (try go_split_ands); go_simp; (try with_reducible rfl))
              try simp only [Act.put, List.getElem_toArray, List.getElem_cons_succ, List.getElem_cons_zero, List.setIfInBounds_toArray, List.set_cons_zero, List.set_cons_succ]
              refine wpAnyH_done (by kernel_rfl) ?_ _
              clear hHeld
              have hu := HP.out.2.2.2.1
              have hv := HP.out.2.2.2.2.1
              have eu : atV a ((j : Int) + 1 - 1).toNat = u := by rw [show ((j : Int) + 1 - 1).toNat = j by omega]; simp [atV, hu]
              have evv : atV b ((j : Int) + 1 - 1).toNat = v := by rw [show ((j : Int) + 1 - 1).toNat = j by omega]; simp [atV, hv]
              have hok : okK na nb ⟨xs, (j : Int) + 1, xd⟩ = true := by unfold okK; simpa using HP.out.2.2.2.2.2
              have z1 : selL na nb a (ks.take (k + 1)) = P1 ++ [u] := by rw [HQ.out.1, hok, if_pos rfl, HP.out.1]; exact congrArg (fun z => P1 ++ [z]) eu
              have z2 : selL na nb b (ks.take (k + 1)) = P2 ++ [v] := by rw [HQ.out.2.1, hok, if_pos rfl, HP.out.2.1]; exact congrArg (fun z => P2 ++ [z]) evv
              have z3 : selD na nb (ks.take (k + 1)) = P3 ++ [xd] := by rw [HQ.out.2.2.1, hok, if_pos rfl, HP.out.2.2.1]
              have HZ := Lib.hid (And.intro z1 (And.intro z2 z3))
              clear z1 z2 z3 hok eu evv hu hv
              go_wp2
              refine ⟨⟨k + 1, by go_num, by omega, ?_⟩, by simp [intOf]; omega⟩
              rw [HZ.out.1, HZ.out.2.1, HZ.out.2.2, List.length_append, List.length_append, List.length_append]
              exact C6.out.1
          · go_simp
            obtain ⟨V2, hV2⟩ : ∃ W, V1.alloc (.cells #[.bool xd] 4) = W := ⟨_, rfl⟩
            rw [hV2]
            have C2 := C1.out.1.alloc (.cells #[.bool xd] 4)
            have K2 := C1.out.2.alloc (.cells #[.bool xd] 4)
            have B2 := B2.alloc (.cells #[.bool xd] 4)
            have B3 := Blk.new V1 4 #[.bool xd]
            rw [hV2] at C2 K2 B2 B3
            have lV2 : W1.heap.size ≤ V2.heap.size := by rw [← hV2]; simp; omega
            clear hV2
            have C2 := Lib.hid (And.intro C2 K2)
            clear K2
            
            refine hK.out _ _ ?_ (fun hHeld => ?_)
            · ((try dsimp only); (try dsimp only at hHeld); exact HS.out _ C2.out.1.hb C2.out.2)
            clear hK K
            try dsimp only at hHeld
            try simp only [Act.put, List.getElem_toArray, List.getElem_cons_succ, List.getElem_cons_zero, List.setIfInBounds_toArray, List.set_cons_zero, List.set_cons_succ]
            refine wpAnyH_ready (rs := [5]) (by kernel_rfl) (by simp) (AllReadyH.cons rfl (fun K hK => ?_) AllReadyH.nil)
            go_simp
            obtain ⟨V3, hV3⟩ : ∃ W, V2.alloc (.cells #[.int .u8 u.k, .int .i64 u.i, .string u.s] 26) = W := ⟨_, rfl⟩
            rw [hV3]
            have C3 := C2.out.1.alloc (.cells #[.int .u8 u.k, .int .i64 u.i, .string u.s] 26)
            have K3 := C2.out.2.alloc (.cells #[.int .u8 u.k, .int .i64 u.i, .string u.s] 26)
            have B2 := B2.alloc (.cells #[.int .u8 u.k, .int .i64 u.i, .string u.s] 26)
            have B3 := B3.alloc (.cells #[.int .u8 u.k, .int .i64 u.i, .string u.s] 26)
            have B1 := Blk.new V2 26 #[.int .u8 u.k, .int .i64 u.i, .string u.s]
            rw [hV3] at C3 K3 B2 B3 B1
            have lV3 : W1.heap.size ≤ V3.heap.size := by rw [← hV3]; simp; omega
            clear hV3
            have C3 := Lib.hid (And.intro C3 K3)
            clear K3
            
            refine hK.out _ _ ?_ (fun hHeld => ?_)
            · ((try dsimp only); (try dsimp only at hHeld); exact HS.out _ C3.out.1.hb C3.out.2)
            clear hK K
            try dsimp only at hHeld
            try simp only [Act.put, List.getElem_toArray, List.getElem_cons_succ, List.getElem_cons_zero, List.setIfInBounds_toArray, List.set_cons_zero, List.set_cons_succ]
            refine wpAnyH_ready (rs := [6]) (by kernel_rfl) (by simp) (AllReadyH.cons rfl (fun K hK => ?_) AllReadyH.nil)
            refine step_append_any _ rfl (.tmp 34) (.tmp 39) 22 rfl W0.heap.size 26 i0 _ 3 32 Tryz.underlying22 hi0 hz0 hs0 hy0 rfl (by decide) u7 P1.length (vV P1) (by first | rfl | (simp [Act.eval, Act.put]; done)) C3.out.1.o1 V3.heap.size (some ⟨V2.heap.size, 0, none⟩) 1 1 [.int .u8 u.k, .int .i64 u.i, .string u.s] (by first | rfl | (simp [Act.eval, Act.put]; done)) (reads_of_blk B1 rfl rfl) (by intro y hy; simp only [List.mem_cons, List.not_mem_nil, or_false] at hy; (first | (rcases hy with rfl | rfl | rfl <;> rfl) | (subst hy; rfl))) (by unfold maxLen; omega) (by omega) C3.out.1.hb.size ?_
            intro a1 V4 own1 gr1 ob1
            have K4 := C3.out.2.grown gr1 (fun e => by have := OL.out.1 _ e.symm; omega)
            have B2 := B2.grown gr1 (fun e => by have := OL.out.1 _ e.symm; omega)
            have B3 := B3.grown gr1 (fun e => by have := OL.out.1 _ e.symm; omega)
            have lV4 : W1.heap.size ≤ V4.heap.size := by have := gr1.size; omega
            have C4 := Lib.hid (And.intro (C3.out.1.push1 u own1 gr1 ob1) K4)
            clear K4 own1 gr1 ob1 B1
            refine hK.out _ _ ?_ (fun hHeld => ?_)
            · ((try dsimp only); (try dsimp only at hHeld); exact HS.out _ C4.out.1.hb C4.out.2)
            clear hK K
            try dsimp only at hHeld
            try simp only [Act.put, List.getElem_toArray, List.getElem_cons_succ, List.getElem_cons_zero, List.setIfInBounds_toArray, List.set_cons_zero, List.set_cons_succ]
            refine wpAnyH_ready (rs := [13]) (by kernel_rfl) (by simp) (AllReadyH.cons rfl (fun K hK => ?_) AllReadyH.nil)
            refine step_append_any _ rfl (.tmp 41) (.tmp 46) 22 rfl W0.heap.size 26 i0 _ 3 32 Tryz.underlying22 hi0 hz0 hs0 hy0 rfl (by decide) u8 P2.length (vV P2) (by first | rfl | (simp [Act.eval, Act.put]; done)) C4.out.1.o2 V4.heap.size (some ⟨D0.heap.size, 0, none⟩) 1 1 [.int .u8 v.k, .int .i64 v.i, .string v.s] (by first | rfl | (simp [Act.eval, Act.put]; done)) (reads_of_blk B2 rfl rfl) (by intro y hy; simp only [List.mem_cons, List.not_mem_nil, or_false] at hy; (first | (rcases hy with rfl | rfl | rfl <;> rfl) | (subst hy; rfl))) (by unfold maxLen; omega) (by omega) C4.out.1.hb.size ?_
            intro a2 V5 own2 gr2 ob2
            have K5 := C4.out.2.grown gr2 (fun e => by have := OL.out.2.1 _ e.symm; omega)
            have B3 := B3.grown gr2 (fun e => by have := OL.out.2.1 _ e.symm; omega)
            have lV5 : W1.heap.size ≤ V5.heap.size := by have := gr2.size; omega
            have C5 := Lib.hid (And.intro (C4.out.1.push2 v own2 gr2 ob2) K5)
            clear K5 own2 gr2 ob2 B2
            refine hK.out _ _ ?_ (fun hHeld => ?_)
            · ((try dsimp only); (try dsimp only at hHeld); exact HS.out _ C5.out.1.hb C5.out.2)
            clear hK K
            try dsimp only at hHeld
            try simp only [Act.put, List.getElem_toArray, List.getElem_cons_succ, List.getElem_cons_zero, List.setIfInBounds_toArray, List.set_cons_zero, List.set_cons_succ]
            refine wpAnyH_ready (rs := [18]) (by kernel_rfl) (by simp) (AllReadyH.cons rfl (fun K hK => ?_) AllReadyH.nil)
            refine step_append_any _ rfl (.tmp 48) (.tmp 51) 83 rfl W0.heap.size 4 i1 _ 1 1 Tryz.underlying83 hi1 hz1 hs1 hy1 rfl (by decide) u9 P3.length (P3.map Value.bool) (by first | rfl | (simp [Act.eval, Act.put]; done)) C5.out.1.o3 V5.heap.size (some ⟨V1.heap.size, 0, none⟩) 1 1 [.bool xd] (by first | rfl | (simp [Act.eval, Act.put]; done)) (reads_of_blk B3 rfl rfl) (by intro y hy; simp only [List.mem_cons, List.not_mem_nil, or_false] at hy; (first | (rcases hy with rfl | rfl | rfl <;> rfl) | (subst hy; rfl))) (by unfold maxLen; omega) (by omega) C5.out.1.hb.size ?_
            intro a3 V6 own3 gr3 ob3
            have K6 := C5.out.2.grown gr3 (fun e => by have := OL.out.2.2 _ e.symm; omega)
            have lV6 : W1.heap.size ≤ V6.heap.size := by have := gr3.size; omega
            have C6 := Lib.hid (And.intro (C5.out.1.push3 xd own3 gr3) K6)
            clear K6 own3 gr3 ob3 B3
            refine hK.out _ _ ?_ (fun hHeld => ?_)
            · ((try dsimp only); (try dsimp only at hHeld); exact HS.out _ C6.out.1.hb C6.out.2)
            clear hK K
            try dsimp only at hHeld
            try simp only [Act.put, List.getElem_toArray, List.getElem_cons_succ, List.getElem_cons_zero, List.setIfInBounds_toArray, List.set_cons_zero, List.set_cons_succ]
            refine wpAnyH_take (i := 19) (v := ?_) rfl (by kernel_rfl) (by kernel_rfl) (by kernel_rfl) (fun _ _ _ h => h) (Or.inl ⟨rfl, ?_⟩) hHeld ?_
            rotate_left
            focus (intro wx hSw; (try dsimp only at hSw); (try go_split_ands); go_simp; (try with_reducible rfl))
            try simp only [Act.put, List.getElem_toArray, List.getElem_cons_succ, List.getElem_cons_zero, List.setIfInBounds_toArray, List.set_cons_zero, List.set_cons_succ]
            refine wpAnyH_take (i := 20) (v := ?_) rfl (by kernel_rfl) (by kernel_rfl) (by kernel_rfl) (fun _ _ _ h => h) (Or.inl ⟨rfl, ?_⟩) hHeld ?_
            rotate_left
            focus (intro wx hSw; (try dsimp only at hSw); (try go_split_ands); go_simp; (try with_reducible rfl))
            try simp only [Act.put, List.getElem_toArray, List.getElem_cons_succ, List.getElem_cons_zero, List.setIfInBounds_toArray, List.set_cons_zero, List.set_cons_succ]
            refine wpAnyH_take (i := 21) (v := ?_) rfl (by kernel_rfl) (by kernel_rfl) (by kernel_rfl) (fun _ _ _ h => h) (Or.inl ⟨rfl, ?_⟩) hHeld ?_
            rotate_left
            focus (intro wx hSw; (try dsimp only at hSw); (try go_split_ands); go_simp; (try with_reducible rfl))
            try simp only [Act.put, List.getElem_toArray, List.getElem_cons_succ, List.getElem_cons_zero, List.setIfInBounds_toArray, List.set_cons_zero, List.set_cons_succ]
            refine wpAnyH_done (by kernel_rfl) ?_ _
            clear hHeld
            have hu := HP.out.2.2.2.1
            have hv := HP.out.2.2.2.2.1
            have eu : atV a ((j : Int) + 1 - 1).toNat = u := by rw [show ((j : Int) + 1 - 1).toNat = j by omega]; simp [atV, hu]
            have evv : atV b ((j : Int) + 1 - 1).toNat = v := by rw [show ((j : Int) + 1 - 1).toNat = j by omega]; simp [atV, hv]
            have hok : okK na nb ⟨xs, (j : Int) + 1, xd⟩ = true := by unfold okK; simpa using HP.out.2.2.2.2.2
            have z1 : selL na nb a (ks.take (k + 1)) = P1 ++ [u] := by rw [HQ.out.1, hok, if_pos rfl, HP.out.1]; exact congrArg (fun z => P1 ++ [z]) eu
            have z2 : selL na nb b (ks.take (k + 1)) = P2 ++ [v] := by rw [HQ.out.2.1, hok, if_pos rfl, HP.out.2.1]; exact congrArg (fun z => P2 ++ [z]) evv
            have z3 : selD na nb (ks.take (k + 1)) = P3 ++ [xd] := by rw [HQ.out.2.2.1, hok, if_pos rfl, HP.out.2.2.1]
            have HZ := Lib.hid (And.intro z1 (And.intro z2 z3))
            clear z1 z2 z3 hok eu evv hu hv
            go_wp2
            refine ⟨⟨k + 1, by go_num, by omega, ?_⟩, by simp [intOf]; omega⟩
            rw [HZ.out.1, HZ.out.2.1, HZ.out.2.2, List.length_append, List.length_append, List.length_append]
            exact C6.out.1
        · go_simp
          obtain ⟨V1, hV1⟩ : ∃ W, D0.alloc (.cells #[.bool xd] 4) = W := ⟨_, rfl⟩
          rw [hV1]
          have C1 := C0.out.1.alloc (.cells #[.bool xd] 4)
          have K1 := C0.out.2.alloc (.cells #[.bool xd] 4)
          have B3 := Blk.new D0 4 #[.bool xd]
          rw [hV1] at C1 K1 B3
          have lV1 : W1.heap.size ≤ V1.heap.size := by rw [← hV1]; simp; omega
          clear hV1
          have C1 := Lib.hid (And.intro C1 K1)
          clear K1
          
          refine hK.out _ _ ?_ (fun hHeld => ?_)
          · ((try dsimp only); (try dsimp only at hHeld); exact HS.out _ C1.out.1.hb C1.out.2)
          clear hK K
          try dsimp only at hHeld
          try simp only [Act.put, List.getElem_toArray, List.getElem_cons_succ, List.getElem_cons_zero, List.setIfInBounds_toArray, List.set_cons_zero, List.set_cons_succ]
          refine wpAnyH_ready (rs := [5, 12]) (by kernel_rfl) (by simp) (AllReadyH.cons rfl (fun K hK => ?_) (AllReadyH.cons rfl (fun K hK => ?_) AllReadyH.nil))
          · go_simp
            obtain ⟨V2, hV2⟩ : ∃ W, V1.alloc (.cells #[.int .u8 u.k, .int .i64 u.i, .string u.s] 26) = W := ⟨_, rfl⟩
            rw [hV2]
            have C2 := C1.out.1.alloc (.cells #[.int .u8 u.k, .int .i64 u.i, .string u.s] 26)
            have K2 := C1.out.2.alloc (.cells #[.int .u8 u.k, .int .i64 u.i, .string u.s] 26)
            have B3 := B3.alloc (.cells #[.int .u8 u.k, .int .i64 u.i, .string u.s] 26)
            have B1 := Blk.new V1 26 #[.int .u8 u.k, .int .i64 u.i, .string u.s]
            rw [hV2] at C2 K2 B3 B1
            have lV2 : W1.heap.size ≤ V2.heap.size := by rw [← hV2]; simp; omega
            clear hV2
            have C2 := Lib.hid (And.intro C2 K2)
            clear K2
            
            refine hK.out _ _ ?_ (fun hHeld => ?_)
            · ((try dsimp only); (try dsimp only at hHeld); exact HS.out _ C2.out.1.hb C2.out.2)
            clear hK K
            try dsimp only at hHeld
            try simp only [Act.put, List.getElem_toArray, List.getElem_cons_succ, List.getElem_cons_zero, List.setIfInBounds_toArray, List.set_cons_zero, List.set_cons_succ]
            refine wpAnyH_ready (rs := [6, 12]) (by kernel_rfl) (by simp) (AllReadyH.cons rfl (fun K hK => ?_) (AllReadyH.cons rfl (fun K hK => ?_) AllReadyH.nil))
            · skip
              refine step_append_any _ rfl (.tmp 34) (.tmp 39) 22 rfl W0.heap.size 26 i0 _ 3 32 Tryz.underlying22 hi0 hz0 hs0 hy0 rfl (by decide) u7 P1.length (vV P1) (by first | rfl | (simp [Act.eval, Act.put]; done)) C2.out.1.o1 V2.heap.size (some ⟨V1.heap.size, 0, none⟩) 1 1 [.int .u8 u.k, .int .i64 u.i, .string u.s] (by first | rfl | (simp [Act.eval, Act.put]; done)) (reads_of_blk B1 rfl rfl) (by intro y hy; simp only [List.mem_cons, List.not_mem_nil, or_false] at hy; (first | (rcases hy with rfl | rfl | rfl <;> rfl) | (subst hy; rfl))) (by unfold maxLen; omega) (by omega) C2.out.1.hb.size ?_
              intro a1 V3 own1 gr1 ob1
              have K3 := C2.out.2.grown gr1 (fun e => by have := OL.out.1 _ e.symm; omega)
              have B3 := B3.grown gr1 (fun e => by have := OL.out.1 _ e.symm; omega)
              have lV3 : W1.heap.size ≤ V3.heap.size := by have := gr1.size; omega
              have C3 := Lib.hid (And.intro (C2.out.1.push1 u own1 gr1 ob1) K3)
              clear K3 own1 gr1 ob1 B1
              refine hK.out _ _ ?_ (fun hHeld => ?_)
              · ((try dsimp only); (try dsimp only at hHeld); exact HS.out _ C3.out.1.hb C3.out.2)
              clear hK K
              try dsimp only at hHeld
              try simp only [Act.put, List.getElem_toArray, List.getElem_cons_succ, List.getElem_cons_zero, List.setIfInBounds_toArray, List.set_cons_zero, List.set_cons_succ]
              refine wpAnyH_ready (rs := [12]) (by kernel_rfl) (by simp) (AllReadyH.cons rfl (fun K hK => ?_) AllReadyH.nil)
              go_simp
              obtain ⟨V4, hV4⟩ : ∃ W, V3.alloc (.cells #[.int .u8 v.k, .int .i64 v.i, .string v.s] 26) = W := ⟨_, rfl⟩
              rw [hV4]
              have C4 := C3.out.1.alloc (.cells #[.int .u8 v.k, .int .i64 v.i, .string v.s] 26)
              have K4 := C3.out.2.alloc (.cells #[.int .u8 v.k, .int .i64 v.i, .string v.s] 26)
              have B3 := B3.alloc (.cells #[.int .u8 v.k, .int .i64 v.i, .string v.s] 26)
              have B2 := Blk.new V3 26 #[.int .u8 v.k, .int .i64 v.i, .string v.s]
              rw [hV4] at C4 K4 B3 B2
              have lV4 : W1.heap.size ≤ V4.heap.size := by rw [← hV4]; simp; omega
              clear hV4
              have C4 := Lib.hid (And.intro C4 K4)
              clear K4
              
              refine hK.out _ _ ?_ (fun hHeld => ?_)
              · ((try dsimp only); (try dsimp only at hHeld); exact HS.out _ C4.out.1.hb C4.out.2)
              clear hK K
              try dsimp only at hHeld
              try simp only [Act.put, List.getElem_toArray, List.getElem_cons_succ, List.getElem_cons_zero, List.setIfInBounds_toArray, List.set_cons_zero, List.set_cons_succ]
              refine wpAnyH_ready (rs := [13]) (by kernel_rfl) (by simp) (AllReadyH.cons rfl (fun K hK => ?_) AllReadyH.nil)
              refine step_append_any _ rfl (.tmp 41) (.tmp 46) 22 rfl W0.heap.size 26 i0 _ 3 32 Tryz.underlying22 hi0 hz0 hs0 hy0 rfl (by decide) u8 P2.length (vV P2) (by first | rfl | (simp [Act.eval, Act.put]; done)) C4.out.1.o2 V4.heap.size (some ⟨V3.heap.size, 0, none⟩) 1 1 [.int .u8 v.k, .int .i64 v.i, .string v.s] (by first | rfl | (simp [Act.eval, Act.put]; done)) (reads_of_blk B2 rfl rfl) (by intro y hy; simp only [List.mem_cons, List.not_mem_nil, or_false] at hy; (first | (rcases hy with rfl | rfl | rfl <;> rfl) | (subst hy; rfl))) (by unfold maxLen; omega) (by omega) C4.out.1.hb.size ?_
              intro a2 V5 own2 gr2 ob2
              have K5 := C4.out.2.grown gr2 (fun e => by have := OL.out.2.1 _ e.symm; omega)
              have B3 := B3.grown gr2 (fun e => by have := OL.out.2.1 _ e.symm; omega)
              have lV5 : W1.heap.size ≤ V5.heap.size := by have := gr2.size; omega
              have C5 := Lib.hid (And.intro (C4.out.1.push2 v own2 gr2 ob2) K5)
              clear K5 own2 gr2 ob2 B2
              refine hK.out _ _ ?_ (fun hHeld => ?_)
              · ((try dsimp only); (try dsimp only at hHeld); exact HS.out _ C5.out.1.hb C5.out.2)
              clear hK K
              try dsimp only at hHeld
              try simp only [Act.put, List.getElem_toArray, List.getElem_cons_succ, List.getElem_cons_zero, List.setIfInBounds_toArray, List.set_cons_zero, List.set_cons_succ]
              refine wpAnyH_ready (rs := [18]) (by kernel_rfl) (by simp) (AllReadyH.cons rfl (fun K hK => ?_) AllReadyH.nil)
              refine step_append_any _ rfl (.tmp 48) (.tmp 51) 83 rfl W0.heap.size 4 i1 _ 1 1 Tryz.underlying83 hi1 hz1 hs1 hy1 rfl (by decide) u9 P3.length (P3.map Value.bool) (by first | rfl | (simp [Act.eval, Act.put]; done)) C5.out.1.o3 V5.heap.size (some ⟨D0.heap.size, 0, none⟩) 1 1 [.bool xd] (by first | rfl | (simp [Act.eval, Act.put]; done)) (reads_of_blk B3 rfl rfl) (by intro y hy; simp only [List.mem_cons, List.not_mem_nil, or_false] at hy; (first | (rcases hy with rfl | rfl | rfl <;> rfl) | (subst hy; rfl))) (by unfold maxLen; omega) (by omega) C5.out.1.hb.size ?_
              intro a3 V6 own3 gr3 ob3
              have K6 := C5.out.2.grown gr3 (fun e => by have := OL.out.2.2 _ e.symm; omega)
              have lV6 : W1.heap.size ≤ V6.heap.size := by have := gr3.size; omega
              have C6 := Lib.hid (And.intro (C5.out.1.push3 xd own3 gr3) K6)
              clear K6 own3 gr3 ob3 B3
              refine hK.out _ _ ?_ (fun hHeld => ?_)
              · ((try dsimp only); (try dsimp only at hHeld); exact HS.out _ C6.out.1.hb C6.out.2)
              clear hK K
              try dsimp only at hHeld
              try simp only [Act.put, List.getElem_toArray, List.getElem_cons_succ, List.getElem_cons_zero, List.setIfInBounds_toArray, List.set_cons_zero, List.set_cons_succ]
              refine wpAnyH_take (i := 19) (v := ?_) rfl (by kernel_rfl) (by kernel_rfl) (by kernel_rfl) (fun _ _ _ h => h) (Or.inl ⟨rfl, ?_⟩) hHeld ?_
              rotate_left
              focus (intro wx hSw; (try dsimp only at hSw); (try go_split_ands); go_simp; (try with_reducible rfl))
              try simp only [Act.put, List.getElem_toArray, List.getElem_cons_succ, List.getElem_cons_zero, List.setIfInBounds_toArray, List.set_cons_zero, List.set_cons_succ]
              refine wpAnyH_take (i := 20) (v := ?_) rfl (by kernel_rfl) (by kernel_rfl) (by kernel_rfl) (fun _ _ _ h => h) (Or.inl ⟨rfl, ?_⟩) hHeld ?_
              rotate_left
              focus (intro wx hSw; (try dsimp only at hSw); (try go_split_ands); go_simp; (try with_reducible rfl))
              try simp only [Act.put, List.getElem_toArray, List.getElem_cons_succ, List.getElem_cons_zero, List.setIfInBounds_toArray, List.set_cons_zero, List.set_cons_succ]
              refine wpAnyH_take (i := 21) (v := ?_) rfl (by kernel_rfl) (by kernel_rfl) (by kernel_rfl) (fun _ _ _ h => h) (Or.inl ⟨rfl, ?_⟩) hHeld ?_
              rotate_left
              focus (intro wx hSw; (try dsimp only at hSw); (try go_split_ands); go_simp; (try with_reducible rfl))
              try simp only [Act.put, List.getElem_toArray, List.getElem_cons_succ, List.getElem_cons_zero, List.setIfInBounds_toArray, List.set_cons_zero, List.set_cons_succ]
              refine wpAnyH_done (by kernel_rfl) ?_ _
              clear hHeld
              have hu := HP.out.2.2.2.1
              have hv := HP.out.2.2.2.2.1
              have eu : atV a ((j : Int) + 1 - 1).toNat = u := by rw [show ((j : Int) + 1 - 1).toNat = j by omega]; simp [atV, hu]
              have evv : atV b ((j : Int) + 1 - 1).toNat = v := by rw [show ((j : Int) + 1 - 1).toNat = j by omega]; simp [atV, hv]
              have hok : okK na nb ⟨xs, (j : Int) + 1, xd⟩ = true := by unfold okK; simpa using HP.out.2.2.2.2.2
              have z1 : selL na nb a (ks.take (k + 1)) = P1 ++ [u] := by rw [HQ.out.1, hok, if_pos rfl, HP.out.1]; exact congrArg (fun z => P1 ++ [z]) eu
              have z2 : selL na nb b (ks.take (k + 1)) = P2 ++ [v] := by rw [HQ.out.2.1, hok, if_pos rfl, HP.out.2.1]; exact congrArg (fun z => P2 ++ [z]) evv
              have z3 : selD na nb (ks.take (k + 1)) = P3 ++ [xd] := by rw [HQ.out.2.2.1, hok, if_pos rfl, HP.out.2.2.1]
              have HZ := Lib.hid (And.intro z1 (And.intro z2 z3))
              clear z1 z2 z3 hok eu evv hu hv
              go_wp2
              refine ⟨⟨k + 1, by go_num, by omega, ?_⟩, by simp [intOf]; omega⟩
              rw [HZ.out.1, HZ.out.2.1, HZ.out.2.2, List.length_append, List.length_append, List.length_append]
              exact C6.out.1
            · go_simp
              obtain ⟨V3, hV3⟩ : ∃ W, V2.alloc (.cells #[.int .u8 v.k, .int .i64 v.i, .string v.s] 26) = W := ⟨_, rfl⟩
              rw [hV3]
              have C3 := C2.out.1.alloc (.cells #[.int .u8 v.k, .int .i64 v.i, .string v.s] 26)
              have K3 := C2.out.2.alloc (.cells #[.int .u8 v.k, .int .i64 v.i, .string v.s] 26)
              have B3 := B3.alloc (.cells #[.int .u8 v.k, .int .i64 v.i, .string v.s] 26)
              have B1 := B1.alloc (.cells #[.int .u8 v.k, .int .i64 v.i, .string v.s] 26)
              have B2 := Blk.new V2 26 #[.int .u8 v.k, .int .i64 v.i, .string v.s]
              rw [hV3] at C3 K3 B3 B1 B2
              have lV3 : W1.heap.size ≤ V3.heap.size := by rw [← hV3]; simp; omega
              clear hV3
              have C3 := Lib.hid (And.intro C3 K3)
              clear K3
              
              refine hK.out _ _ ?_ (fun hHeld => ?_)
              · ((try dsimp only); (try dsimp only at hHeld); exact HS.out _ C3.out.1.hb C3.out.2)
              clear hK K
              try dsimp only at hHeld
              try simp only [Act.put, List.getElem_toArray, List.getElem_cons_succ, List.getElem_cons_zero, List.setIfInBounds_toArray, List.set_cons_zero, List.set_cons_succ]
              refine wpAnyH_ready (rs := [6]) (by kernel_rfl) (by simp) (AllReadyH.cons rfl (fun K hK => ?_) AllReadyH.nil)
              refine step_append_any _ rfl (.tmp 34) (.tmp 39) 22 rfl W0.heap.size 26 i0 _ 3 32 Tryz.underlying22 hi0 hz0 hs0 hy0 rfl (by decide) u7 P1.length (vV P1) (by first | rfl | (simp [Act.eval, Act.put]; done)) C3.out.1.o1 V3.heap.size (some ⟨V1.heap.size, 0, none⟩) 1 1 [.int .u8 u.k, .int .i64 u.i, .string u.s] (by first | rfl | (simp [Act.eval, Act.put]; done)) (reads_of_blk B1 rfl rfl) (by intro y hy; simp only [List.mem_cons, List.not_mem_nil, or_false] at hy; (first | (rcases hy with rfl | rfl | rfl <;> rfl) | (subst hy; rfl))) (by unfold maxLen; omega) (by omega) C3.out.1.hb.size ?_
              intro a1 V4 own1 gr1 ob1
              have K4 := C3.out.2.grown gr1 (fun e => by have := OL.out.1 _ e.symm; omega)
              have B3 := B3.grown gr1 (fun e => by have := OL.out.1 _ e.symm; omega)
              have B2 := B2.grown gr1 (fun e => by have := OL.out.1 _ e.symm; omega)
              have lV4 : W1.heap.size ≤ V4.heap.size := by have := gr1.size; omega
              have C4 := Lib.hid (And.intro (C3.out.1.push1 u own1 gr1 ob1) K4)
              clear K4 own1 gr1 ob1 B1
              refine hK.out _ _ ?_ (fun hHeld => ?_)
              · ((try dsimp only); (try dsimp only at hHeld); exact HS.out _ C4.out.1.hb C4.out.2)
              clear hK K
              try dsimp only at hHeld
              try simp only [Act.put, List.getElem_toArray, List.getElem_cons_succ, List.getElem_cons_zero, List.setIfInBounds_toArray, List.set_cons_zero, List.set_cons_succ]
              refine wpAnyH_ready (rs := [13]) (by kernel_rfl) (by simp) (AllReadyH.cons rfl (fun K hK => ?_) AllReadyH.nil)
              refine step_append_any _ rfl (.tmp 41) (.tmp 46) 22 rfl W0.heap.size 26 i0 _ 3 32 Tryz.underlying22 hi0 hz0 hs0 hy0 rfl (by decide) u8 P2.length (vV P2) (by first | rfl | (simp [Act.eval, Act.put]; done)) C4.out.1.o2 V4.heap.size (some ⟨V2.heap.size, 0, none⟩) 1 1 [.int .u8 v.k, .int .i64 v.i, .string v.s] (by first | rfl | (simp [Act.eval, Act.put]; done)) (reads_of_blk B2 rfl rfl) (by intro y hy; simp only [List.mem_cons, List.not_mem_nil, or_false] at hy; (first | (rcases hy with rfl | rfl | rfl <;> rfl) | (subst hy; rfl))) (by unfold maxLen; omega) (by omega) C4.out.1.hb.size ?_
              intro a2 V5 own2 gr2 ob2
              have K5 := C4.out.2.grown gr2 (fun e => by have := OL.out.2.1 _ e.symm; omega)
              have B3 := B3.grown gr2 (fun e => by have := OL.out.2.1 _ e.symm; omega)
              have lV5 : W1.heap.size ≤ V5.heap.size := by have := gr2.size; omega
              have C5 := Lib.hid (And.intro (C4.out.1.push2 v own2 gr2 ob2) K5)
              clear K5 own2 gr2 ob2 B2
              refine hK.out _ _ ?_ (fun hHeld => ?_)
              · ((try dsimp only); (try dsimp only at hHeld); exact HS.out _ C5.out.1.hb C5.out.2)
              clear hK K
              try dsimp only at hHeld
              try simp only [Act.put, List.getElem_toArray, List.getElem_cons_succ, List.getElem_cons_zero, List.setIfInBounds_toArray, List.set_cons_zero, List.set_cons_succ]
              refine wpAnyH_ready (rs := [18]) (by kernel_rfl) (by simp) (AllReadyH.cons rfl (fun K hK => ?_) AllReadyH.nil)
              refine step_append_any _ rfl (.tmp 48) (.tmp 51) 83 rfl W0.heap.size 4 i1 _ 1 1 Tryz.underlying83 hi1 hz1 hs1 hy1 rfl (by decide) u9 P3.length (P3.map Value.bool) (by first | rfl | (simp [Act.eval, Act.put]; done)) C5.out.1.o3 V5.heap.size (some ⟨D0.heap.size, 0, none⟩) 1 1 [.bool xd] (by first | rfl | (simp [Act.eval, Act.put]; done)) (reads_of_blk B3 rfl rfl) (by intro y hy; simp only [List.mem_cons, List.not_mem_nil, or_false] at hy; (first | (rcases hy with rfl | rfl | rfl <;> rfl) | (subst hy; rfl))) (by unfold maxLen; omega) (by omega) C5.out.1.hb.size ?_
              intro a3 V6 own3 gr3 ob3
              have K6 := C5.out.2.grown gr3 (fun e => by have := OL.out.2.2 _ e.symm; omega)
              have lV6 : W1.heap.size ≤ V6.heap.size := by have := gr3.size; omega
              have C6 := Lib.hid (And.intro (C5.out.1.push3 xd own3 gr3) K6)
              clear K6 own3 gr3 ob3 B3
              refine hK.out _ _ ?_ (fun hHeld => ?_)
              · ((try dsimp only); (try dsimp only at hHeld); exact HS.out _ C6.out.1.hb C6.out.2)
              clear hK K
              try dsimp only at hHeld
              try simp only [Act.put, List.getElem_toArray, List.getElem_cons_succ, List.getElem_cons_zero, List.setIfInBounds_toArray, List.set_cons_zero, List.set_cons_succ]
              refine wpAnyH_take (i := 19) (v := ?_) rfl (by kernel_rfl) (by kernel_rfl) (by kernel_rfl) (fun _ _ _ h => h) (Or.inl ⟨rfl, ?_⟩) hHeld ?_
              rotate_left
              focus (intro wx hSw; (try dsimp only at hSw); (try go_split_ands); go_simp; (try with_reducible rfl))
              try simp only [Act.put, List.getElem_toArray, List.getElem_cons_succ, List.getElem_cons_zero, List.setIfInBounds_toArray, List.set_cons_zero, List.set_cons_succ]
              refine wpAnyH_take (i := 20) (v := ?_) rfl (by kernel_rfl) (by kernel_rfl) (by kernel_rfl) (fun _ _ _ h => h) (Or.inl ⟨rfl, ?_⟩) hHeld ?_
              rotate_left
              focus (intro wx hSw; (try dsimp only at hSw); (try go_split_ands); go_simp; (try with_reducible rfl))
              try simp only [Act.put, List.getElem_toArray, List.getElem_cons_succ, List.getElem_cons_zero, List.setIfInBounds_toArray, List.set_cons_zero, List.set_cons_succ]
              refine wpAnyH_take (i := 21) (v := ?_) rfl (by kernel_rfl) (by kernel_rfl) (by kernel_rfl) (fun _ _ _ h => h) (Or.inl ⟨rfl, ?_⟩) hHeld ?_
              rotate_left
              focus (intro wx hSw; (try dsimp only at hSw); (try go_split_ands); go_simp; (try with_reducible rfl))
              try simp only [Act.put, List.getElem_toArray, List.getElem_cons_succ, List.getElem_cons_zero, List.setIfInBounds_toArray, List.set_cons_zero, List.set_cons_succ]
              refine wpAnyH_done (by kernel_rfl) ?_ _
              clear hHeld
              have hu := HP.out.2.2.2.1
              have hv := HP.out.2.2.2.2.1
              have eu : atV a ((j : Int) + 1 - 1).toNat = u := by rw [show ((j : Int) + 1 - 1).toNat = j by omega]; simp [atV, hu]
              have evv : atV b ((j : Int) + 1 - 1).toNat = v := by rw [show ((j : Int) + 1 - 1).toNat = j by omega]; simp [atV, hv]
              have hok : okK na nb ⟨xs, (j : Int) + 1, xd⟩ = true := by unfold okK; simpa using HP.out.2.2.2.2.2
              have z1 : selL na nb a (ks.take (k + 1)) = P1 ++ [u] := by rw [HQ.out.1, hok, if_pos rfl, HP.out.1]; exact congrArg (fun z => P1 ++ [z]) eu
              have z2 : selL na nb b (ks.take (k + 1)) = P2 ++ [v] := by rw [HQ.out.2.1, hok, if_pos rfl, HP.out.2.1]; exact congrArg (fun z => P2 ++ [z]) evv
              have z3 : selD na nb (ks.take (k + 1)) = P3 ++ [xd] := by rw [HQ.out.2.2.1, hok, if_pos rfl, HP.out.2.2.1]
              have HZ := Lib.hid (And.intro z1 (And.intro z2 z3))
              clear z1 z2 z3 hok eu evv hu hv
              go_wp2
              refine ⟨⟨k + 1, by go_num, by omega, ?_⟩, by simp [intOf]; omega⟩
              rw [HZ.out.1, HZ.out.2.1, HZ.out.2.2, List.length_append, List.length_append, List.length_append]
              exact C6.out.1
          · go_simp
            obtain ⟨V2, hV2⟩ : ∃ W, V1.alloc (.cells #[.int .u8 v.k, .int .i64 v.i, .string v.s] 26) = W := ⟨_, rfl⟩
            rw [hV2]
            have C2 := C1.out.1.alloc (.cells #[.int .u8 v.k, .int .i64 v.i, .string v.s] 26)
            have K2 := C1.out.2.alloc (.cells #[.int .u8 v.k, .int .i64 v.i, .string v.s] 26)
            have B3 := B3.alloc (.cells #[.int .u8 v.k, .int .i64 v.i, .string v.s] 26)
            have B2 := Blk.new V1 26 #[.int .u8 v.k, .int .i64 v.i, .string v.s]
            rw [hV2] at C2 K2 B3 B2
            have lV2 : W1.heap.size ≤ V2.heap.size := by rw [← hV2]; simp; omega
            clear hV2
            have C2 := Lib.hid (And.intro C2 K2)
            clear K2
            
            refine hK.out _ _ ?_ (fun hHeld => ?_)
            · ((try dsimp only); (try dsimp only at hHeld); exact HS.out _ C2.out.1.hb C2.out.2)
            clear hK K
            try dsimp only at hHeld
            try simp only [Act.put, List.getElem_toArray, List.getElem_cons_succ, List.getElem_cons_zero, List.setIfInBounds_toArray, List.set_cons_zero, List.set_cons_succ]
            refine wpAnyH_ready (rs := [5]) (by kernel_rfl) (by simp) (AllReadyH.cons rfl (fun K hK => ?_) AllReadyH.nil)
            go_simp
            obtain ⟨V3, hV3⟩ : ∃ W, V2.alloc (.cells #[.int .u8 u.k, .int .i64 u.i, .string u.s] 26) = W := ⟨_, rfl⟩
            rw [hV3]
            have C3 := C2.out.1.alloc (.cells #[.int .u8 u.k, .int .i64 u.i, .string u.s] 26)
            have K3 := C2.out.2.alloc (.cells #[.int .u8 u.k, .int .i64 u.i, .string u.s] 26)
            have B3 := B3.alloc (.cells #[.int .u8 u.k, .int .i64 u.i, .string u.s] 26)
            have B2 := B2.alloc (.cells #[.int .u8 u.k, .int .i64 u.i, .string u.s] 26)
            have B1 := Blk.new V2 26 #[.int .u8 u.k, .int .i64 u.i, .string u.s]
            rw [hV3] at C3 K3 B3 B2 B1
            have lV3 : W1.heap.size ≤ V3.heap.size := by rw [← hV3]; simp; omega
            clear hV3
            have C3 := Lib.hid (And.intro C3 K3)
            clear K3
            
            refine hK.out _ _ ?_ (fun hHeld => ?_)
            · ((try dsimp only); (try dsimp only at hHeld); exact HS.out _ C3.out.1.hb C3.out.2)
            clear hK K
            try dsimp only at hHeld
            try simp only [Act.put, List.getElem_toArray, List.getElem_cons_succ, List.getElem_cons_zero, List.setIfInBounds_toArray, List.set_cons_zero, List.set_cons_succ]
            refine wpAnyH_ready (rs := [6]) (by kernel_rfl) (by simp) (AllReadyH.cons rfl (fun K hK => ?_) AllReadyH.nil)
            refine step_append_any _ rfl (.tmp 34) (.tmp 39) 22 rfl W0.heap.size 26 i0 _ 3 32 Tryz.underlying22 hi0 hz0 hs0 hy0 rfl (by decide) u7 P1.length (vV P1) (by first | rfl | (simp [Act.eval, Act.put]; done)) C3.out.1.o1 V3.heap.size (some ⟨V2.heap.size, 0, none⟩) 1 1 [.int .u8 u.k, .int .i64 u.i, .string u.s] (by first | rfl | (simp [Act.eval, Act.put]; done)) (reads_of_blk B1 rfl rfl) (by intro y hy; simp only [List.mem_cons, List.not_mem_nil, or_false] at hy; (first | (rcases hy with rfl | rfl | rfl <;> rfl) | (subst hy; rfl))) (by unfold maxLen; omega) (by omega) C3.out.1.hb.size ?_
            intro a1 V4 own1 gr1 ob1
            have K4 := C3.out.2.grown gr1 (fun e => by have := OL.out.1 _ e.symm; omega)
            have B3 := B3.grown gr1 (fun e => by have := OL.out.1 _ e.symm; omega)
            have B2 := B2.grown gr1 (fun e => by have := OL.out.1 _ e.symm; omega)
            have lV4 : W1.heap.size ≤ V4.heap.size := by have := gr1.size; omega
            have C4 := Lib.hid (And.intro (C3.out.1.push1 u own1 gr1 ob1) K4)
            clear K4 own1 gr1 ob1 B1
            refine hK.out _ _ ?_ (fun hHeld => ?_)
            · ((try dsimp only); (try dsimp only at hHeld); exact HS.out _ C4.out.1.hb C4.out.2)
            clear hK K
            try dsimp only at hHeld
            try simp only [Act.put, List.getElem_toArray, List.getElem_cons_succ, List.getElem_cons_zero, List.setIfInBounds_toArray, List.set_cons_zero, List.set_cons_succ]
            refine wpAnyH_ready (rs := [13]) (by kernel_rfl) (by simp) (AllReadyH.cons rfl (fun K hK => ?_) AllReadyH.nil)
            refine step_append_any _ rfl (.tmp 41) (.tmp 46) 22 rfl W0.heap.size 26 i0 _ 3 32 Tryz.underlying22 hi0 hz0 hs0 hy0 rfl (by decide) u8 P2.length (vV P2) (by first | rfl | (simp [Act.eval, Act.put]; done)) C4.out.1.o2 V4.heap.size (some ⟨V1.heap.size, 0, none⟩) 1 1 [.int .u8 v.k, .int .i64 v.i, .string v.s] (by first | rfl | (simp [Act.eval, Act.put]; done)) (reads_of_blk B2 rfl rfl) (by intro y hy; simp only [List.mem_cons, List.not_mem_nil, or_false] at hy; (first | (rcases hy with rfl | rfl | rfl <;> rfl) | (subst hy; rfl))) (by unfold maxLen; omega) (by omega) C4.out.1.hb.size ?_
            intro a2 V5 own2 gr2 ob2
            have K5 := C4.out.2.grown gr2 (fun e => by have := OL.out.2.1 _ e.symm; omega)
            have B3 := B3.grown gr2 (fun e => by have := OL.out.2.1 _ e.symm; omega)
            have lV5 : W1.heap.size ≤ V5.heap.size := by have := gr2.size; omega
            have C5 := Lib.hid (And.intro (C4.out.1.push2 v own2 gr2 ob2) K5)
            clear K5 own2 gr2 ob2 B2
            refine hK.out _ _ ?_ (fun hHeld => ?_)
            · ((try dsimp only); (try dsimp only at hHeld); exact HS.out _ C5.out.1.hb C5.out.2)
            clear hK K
            try dsimp only at hHeld
            try simp only [Act.put, List.getElem_toArray, List.getElem_cons_succ, List.getElem_cons_zero, List.setIfInBounds_toArray, List.set_cons_zero, List.set_cons_succ]
            refine wpAnyH_ready (rs := [18]) (by kernel_rfl) (by simp) (AllReadyH.cons rfl (fun K hK => ?_) AllReadyH.nil)
            refine step_append_any _ rfl (.tmp 48) (.tmp 51) 83 rfl W0.heap.size 4 i1 _ 1 1 Tryz.underlying83 hi1 hz1 hs1 hy1 rfl (by decide) u9 P3.length (P3.map Value.bool) (by first | rfl | (simp [Act.eval, Act.put]; done)) C5.out.1.o3 V5.heap.size (some ⟨D0.heap.size, 0, none⟩) 1 1 [.bool xd] (by first | rfl | (simp [Act.eval, Act.put]; done)) (reads_of_blk B3 rfl rfl) (by intro y hy; simp only [List.mem_cons, List.not_mem_nil, or_false] at hy; (first | (rcases hy with rfl | rfl | rfl <;> rfl) | (subst hy; rfl))) (by unfold maxLen; omega) (by omega) C5.out.1.hb.size ?_
            intro a3 V6 own3 gr3 ob3
            have K6 := C5.out.2.grown gr3 (fun e => by have := OL.out.2.2 _ e.symm; omega)
            have lV6 : W1.heap.size ≤ V6.heap.size := by have := gr3.size; omega
            have C6 := Lib.hid (And.intro (C5.out.1.push3 xd own3 gr3) K6)
            clear K6 own3 gr3 ob3 B3
            refine hK.out _ _ ?_ (fun hHeld => ?_)
            · ((try dsimp only); (try dsimp only at hHeld); exact HS.out _ C6.out.1.hb C6.out.2)
            clear hK K
            try dsimp only at hHeld
            try simp only [Act.put, List.getElem_toArray, List.getElem_cons_succ, List.getElem_cons_zero, List.setIfInBounds_toArray, List.set_cons_zero, List.set_cons_succ]
            refine wpAnyH_take (i := 19) (v := ?_) rfl (by kernel_rfl) (by kernel_rfl) (by kernel_rfl) (fun _ _ _ h => h) (Or.inl ⟨rfl, ?_⟩) hHeld ?_
            rotate_left
            focus (intro wx hSw; (try dsimp only at hSw); (try go_split_ands); go_simp; (try with_reducible rfl))
            try simp only [Act.put, List.getElem_toArray, List.getElem_cons_succ, List.getElem_cons_zero, List.setIfInBounds_toArray, List.set_cons_zero, List.set_cons_succ]
            refine wpAnyH_take (i := 20) (v := ?_) rfl (by kernel_rfl) (by kernel_rfl) (by kernel_rfl) (fun _ _ _ h => h) (Or.inl ⟨rfl, ?_⟩) hHeld ?_
            rotate_left
            focus (intro wx hSw; (try dsimp only at hSw); (try go_split_ands); go_simp; (try with_reducible rfl))
            try simp only [Act.put, List.getElem_toArray, List.getElem_cons_succ, List.getElem_cons_zero, List.setIfInBounds_toArray, List.set_cons_zero, List.set_cons_succ]
            refine wpAnyH_take (i := 21) (v := ?_) rfl (by kernel_rfl) (by kernel_rfl) (by kernel_rfl) (fun _ _ _ h => h) (Or.inl ⟨rfl, ?_⟩) hHeld ?_
            rotate_left
            focus (intro wx hSw; (try dsimp only at hSw); (try go_split_ands); go_simp; (try with_reducible rfl))
            try simp only [Act.put, List.getElem_toArray, List.getElem_cons_succ, List.getElem_cons_zero, List.setIfInBounds_toArray, List.set_cons_zero, List.set_cons_succ]
            refine wpAnyH_done (by kernel_rfl) ?_ _
            clear hHeld
            have hu := HP.out.2.2.2.1
            have hv := HP.out.2.2.2.2.1
            have eu : atV a ((j : Int) + 1 - 1).toNat = u := by rw [show ((j : Int) + 1 - 1).toNat = j by omega]; simp [atV, hu]
            have evv : atV b ((j : Int) + 1 - 1).toNat = v := by rw [show ((j : Int) + 1 - 1).toNat = j by omega]; simp [atV, hv]
            have hok : okK na nb ⟨xs, (j : Int) + 1, xd⟩ = true := by unfold okK; simpa using HP.out.2.2.2.2.2
            have z1 : selL na nb a (ks.take (k + 1)) = P1 ++ [u] := by rw [HQ.out.1, hok, if_pos rfl, HP.out.1]; exact congrArg (fun z => P1 ++ [z]) eu
            have z2 : selL na nb b (ks.take (k + 1)) = P2 ++ [v] := by rw [HQ.out.2.1, hok, if_pos rfl, HP.out.2.1]; exact congrArg (fun z => P2 ++ [z]) evv
            have z3 : selD na nb (ks.take (k + 1)) = P3 ++ [xd] := by rw [HQ.out.2.2.1, hok, if_pos rfl, HP.out.2.2.1]
            have HZ := Lib.hid (And.intro z1 (And.intro z2 z3))
            clear z1 z2 z3 hok eu evv hu hv
            go_wp2
            refine ⟨⟨k + 1, by go_num, by omega, ?_⟩, by simp [intOf]; omega⟩
            rw [HZ.out.1, HZ.out.2.1, HZ.out.2.2, List.length_append, List.length_append, List.length_append]
            exact C6.out.1

    · obtain rfl : nk = k := by omega
      rw [List.take_of_length_le (by rw [HL.out.1]; exact Nat.le_refl _)] at r3
      obtain ⟨A1, c1, rfl, hc1⟩ := own_form r3.o1
      obtain ⟨A2, c2, rfl, hc2⟩ := own_form r3.o2
      obtain ⟨A3, c3, rfl, hc3⟩ := own_form r3.o3
      have hln : ∀ a : List Vl, (selL na nb a ks).length ≤ 1000 := fun a => by
        unfold selL
        rw [List.length_map]
        have h7 := List.length_filter_le (okK na nb) ks
        have h8 := HL.out.1
        omega
      have CR := Lib.hid (compareRows_any A1 A2 A3 _ c1 _ c2 _ c3 (selL na nb a ks) (selL na nb b ks) (selD na nb ks) wo (Reads.of_own r3.o1) (Reads.of_own r3.o2) (Reads.of_own r3.o3) (by have := hln a; unfold maxLen; omega))
      have HQ := Lib.hid bw
      clear r3 bw hln
      go_wp2_with fail
      refine CR.out.mono ?_
      rintro e w9 ⟨rfl, hb9⟩
      have HE := Lib.hid (bto0 HQ.out hb9)
      clear hb9 CR
      go_wp2
      go_ret
      exact ⟨rfl, HE.out⟩
end Go.Proofs.YthpggfcindnlcaaGreatDoor
