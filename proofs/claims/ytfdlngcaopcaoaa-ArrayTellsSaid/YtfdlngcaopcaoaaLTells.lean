/-
  ArrayTells comes to true, whatever it is called with.
-/
import Derived.Test.YtfdlngcaopcaoaaRKids
import Derived.Test.YtfdlngcaopcaoaaRSames
import Derived.Test.YtfdlngcaopcaoaaSmall
namespace Go.Proofs.Ytfdlngcaopcaoaa
open Go.RowKit Go.Lib
set_option linter.unusedSimpArgs false
set_option linter.unusedVariables false

/-- a row of numbers of this length, whatever they are -/
def RowOf (w : World) (b l : Nat) : Prop := ∃ cur, w.heap[b]? = some (.cells cur 3 (0, 0)) ∧ cur.size = l
theorem RowOf.set {w : World} {b l b' j : Nat} {v : Value} (h : RowOf w b l) : RowOf (w.setCell ⟨b', j, none⟩ v) b l := by
  obtain ⟨cur, hc, hl⟩ := h
  by_cases e : b = b'
  · subst e
    exact ⟨_, heap_setCell_same w b j cur _ v hc, by simpa using hl⟩
  · exact ⟨cur, (heap_setCell_other w ⟨b', j, none⟩ b v e).trans hc, hl⟩
theorem RowOf.grow {w w' : World} {b l : Nat} (h : RowOf w b l) (hg : Grow w w') : RowOf w' b l := by
  obtain ⟨cur, hc, hl⟩ := h
  exact ⟨cur, (hg.block b (heap_lt hc)).trans hc, hl⟩
theorem RowOf.at_ {w : World} {b l j : Nat} (h : RowOf w b l) (hj : j < l) : ∃ v, w.cell? ⟨b, j, none⟩ = some v := by
  obtain ⟨cur, hc, hl⟩ := h
  have : j < cur.size := by omega
  exact ⟨cur[j], by rw [cell_of_row w b j cur _ (0, 0) hc, Array.getElem?_eq_getElem this]⟩
theorem RowOf.froz {w : World} {b l : Nat} (h : RowOf w b l) (j : Nat) : w.frozen? ⟨b, j, none⟩ = false := by
  obtain ⟨cur, hc, hl⟩ := h
  exact frozen_of_row w b j cur _ hc
/-- the rows of nodes that may be written over, as they lie -/
def Shell (g : Nat) (f : Nat → Value) (ns : List Nd) (w : World) : Prop :=
  w.rowIs g 32 (ns.length * 4) f ∧ ∀ i, i < ns.length → ∃ b1 b2, g < b1 ∧ g < b2 ∧ f (i * 4 + 1) = .slice (some ⟨b1, 0, none⟩) (ns.getD i nd0).shp.length (ns.getD i nd0).shp.length ∧
    f (i * 4 + 2) = .slice (some ⟨b2, 0, none⟩) (ns.getD i nd0).ints.length (ns.getD i nd0).ints.length ∧ RowOf w b1 (ns.getD i nd0).shp.length ∧ RowOf w b2 (ns.getD i nd0).ints.length
theorem Copied.shell {w : World} {g : Nat} {ns : List Nd} (h : Copied w g ns) : ∃ f, Shell g f ns w := by
  obtain ⟨f, hr, ho⟩ := h
  refine ⟨f, hr, fun i hi => ?_⟩
  obtain ⟨b1, b2, b3, g1, g2, g3, h0, h1, h2, h3, r1, r2, r3⟩ := ho i hi
  exact ⟨b1, b2, g1, g2, h1, h2, ⟨_, r1, by simp [ivs]⟩, ⟨_, r2, by simp [ivs]⟩⟩
theorem Shell.grow {g : Nat} {f : Nat → Value} {ns : List Nd} {w w' : World} (h : Shell g f ns w) (hg : Grow w w') : Shell g f ns w' :=
  ⟨h.1.of_block (hg.block g h.1.lt), fun i hi => by
    obtain ⟨b1, b2, g1, g2, h1, h2, r1, r2⟩ := h.2 i hi
    exact ⟨b1, b2, g1, g2, h1, h2, r1.grow hg, r2.grow hg⟩⟩
theorem Shell.set {g : Nat} {f : Nat → Value} {ns : List Nd} {w : World} (h : Shell g f ns w) {b j : Nat} (hb : g < b) (v : Value) : Shell g f ns (w.setCell ⟨b, j, none⟩ v) :=
  ⟨h.1.of_block (heap_setCell_other w ⟨b, j, none⟩ g v (by show ¬ g = b; omega)), fun i hi => by
    obtain ⟨b1, b2, g1, g2, h1, h2, r1, r2⟩ := h.2 i hi
    exact ⟨b1, b2, g1, g2, h1, h2, r1.set, r2.set⟩⟩

theorem flat_ge {ks : List (List Nd)} (h : ∀ k ∈ ks, k ≠ []) : ks.length ≤ (flatK ks).length := by
  induction ks with
  | nil => exact Nat.zero_le _
  | cons k ks ih =>
    have h1 := List.length_pos_iff.2 (h k (by simp))
    have h2 := ih fun k' hk' => h k' (by simp [hk'])
    simp only [List.length_cons, flatK, List.length_append]
    omega

set_option maxRecDepth 10000 in
set_option maxHeartbeats 12800000 in
theorem tells_walk (A : Option Addr) (n c : Nat) (xs : List Nd) (A' : Option Addr) (n' c' : Nat) (ys : List Nd) (w : World) (hx : IsNodes w A n c xs) (hy : IsNodes w A' n' c' ys) :
    Calls Try.prog 3 #[.slice A n c, .slice A' n' c'] w (Says true w) := by
  have HX := Lib.hid hx
  have HY := Lib.hid hy
  clear hx hy
  go_enter Try.func3, Try.ntmps3
  go_wp2_with fail
  refine (small_any _).mono ?_
  rintro e w1 ⟨rfl, hg1⟩
  have HG1 := Lib.hid hg1
  clear hg1
  go_wp2_with fail
  refine (few_any A n c xs w _ HX.out HG1.out).mono ?_
  rintro e w2 ⟨rfl, hg2⟩
  have HG2 := Lib.hid (HG1.out.trans hg2)
  clear hg2 HG1
  go_wp2_with fail
  refine (few_any A' n' c' ys w _ HY.out HG2.out).mono ?_
  rintro e w3 ⟨rfl, hg3⟩
  have HG3 := Lib.hid (HG2.out.trans hg3)
  clear hg3 HG2
  cases hfx : fewB xs with
  | false =>
    go_wp2
    go_ret
    exact ⟨rfl, HG3.out⟩
  | true =>
    have HFX := Lib.hid (few_fits HX.out hfx)
    have hnl : n ≤ 100 := by have := few_len hfx; have := HX.out.1; omega
    clear hfx
    cases hfy : fewB ys with
    | false =>
      go_wp2
      go_ret
      exact ⟨rfl, HG3.out⟩
    | true =>
      have HFY := Lib.hid (few_fits HY.out hfy)
      have hnl' : n' ≤ 100 := by have := few_len hfy; have := HY.out.1; omega
      clear hfy
      have HN := Lib.hid HX.out.1
      have HN' := Lib.hid HY.out.1
      have HNA := Lib.hid (HX.out.2.2.2.1.grow HG3.out)
      have HNB := Lib.hid (HY.out.2.2.2.1.grow HG3.out)
      have hnc : n ≤ c := HX.out.2.1
      have hnc' : n' ≤ c' := HY.out.2.1
      have hn6 : n ≤ 1000000 := by omega
      have hn6' : n' ≤ 1000000 := by omega
      clear HX HY
      have HKF : Hid (FitK (kidsA xs)) := Lib.hid (by
        cases hr : rightA xs with
        | false => rw [(kids_none hr).1]; exact fun k hk => by cases hk
        | true =>
          by_cases hk : (xs.getD 0 nd0).kind = 5
          · obtain ⟨_, _, _, _, q5, _⟩ := kids_nest hr hk
            refine fitk_flat (fun m hm => HFX.out m (by rw [← q5]; exact List.mem_cons_of_mem _ hm)) ?_
            have := congrArg List.length q5
            rw [List.length_cons, HN.out] at this
            omega
          · rw [(kids_plain hr hk).2.1]; exact fun k hk => by cases hk)
      have HKL : Hid ((kidsA xs).length ≤ 100) := Lib.hid (by
        cases hr : rightA xs with
        | false => rw [(kids_none hr).1]; exact Nat.zero_le _
        | true =>
          by_cases hk : (xs.getD 0 nd0).kind = 5
          · obtain ⟨_, q2, _, _, q5, _⟩ := kids_nest hr hk
            have h1 := flat_ge (fun k hk => right_ne (q2 k hk))
            have h2 := congrArg List.length q5
            rw [List.length_cons, HN.out] at h2
            omega
          · rw [(kids_plain hr hk).2.1]; exact Nat.zero_le _)
      go_wp2_with fail
      refine (kids_any A n c xs _ HN.out hn6 hnc HFX.out HNA.out).mono ?_
      rintro e w4 ⟨AK, cK, rfl, -, -, hk4, hg4⟩
      have HG4 := Lib.hid (HG3.out.trans hg4)
      have HNA4 := Lib.hid (HNA.out.grow hg4)
      have HNB4 := Lib.hid (HNB.out.grow hg4)
      have HK4 := Lib.hid hk4
      clear hg4 hk4 HG3 HNA HNB
      go_wp2_with fail
      refine (rkids_any A n c xs _ HN.out hn6 hnc HFX.out HNA4.out).mono ?_
      rintro e w5 ⟨AM, cM, rfl, -, -, hk5, hg5⟩
      have HG5 := Lib.hid (HG4.out.trans hg5)
      have HNA5 := Lib.hid (HNA4.out.grow hg5)
      have HNB5 := Lib.hid (HNB4.out.grow hg5)
      have HK5 := Lib.hid (HK4.out.grow hg5)
      have HM5 := Lib.hid hk5
      clear hg5 hk5 HG4 HNA4 HNB4 HK4
      generalize kidsA xs = ks at *
      obtain ⟨nk, hnk⟩ : ∃ nk, ks.length = nk := ⟨_, rfl⟩
      rw [hnk]
      have HNK := Lib.hid hnk
      have hnk100 : nk ≤ 100 := by rw [← hnk]; exact HKL.out
      clear hnk HKL
      have hkk : (((nk : Nat) : Int) != ((nk : Nat) : Int)) = false := by simp
      go_wp2
      go_loopg [10] nk (fun g s10 wr => ∃ k : Nat, k ≤ nk ∧ g = nk - k ∧ s10 = .int .i64 k ∧ Hid (Grow w5 wr))
      case atStart => exact ⟨0, Nat.zero_le _, rfl, rfl, Lib.hid (Grow.refl _)⟩
      case round =>
        obtain ⟨k, hk, rfl, rfl, HG⟩ := hrel
        by_cases hlt : k < nk
        · have hlti : ((k : Nat) : Int) < ((nk : Nat) : Int) := by omega
          have hkl : k < ks.length := by rw [HNK.out]; exact hlt
          obtain ⟨bk, ok, rfl, hbk, hat⟩ := HK5.out.grow HG.out (by omega)
          obtain ⟨bm, om, rfl, hbm, hat'⟩ := HM5.out.grow HG.out (by omega)
          obtain ⟨AA, ca, ha0, -, hna⟩ := hat k hkl
          obtain ⟨AB, cb, hb0, -, hnb⟩ := hat' k hkl
          obtain ⟨hl, hfk⟩ := HKF.out.at_ hkl
          have HNAK := Lib.hid hna
          have HNBK := Lib.hid hnb
          have HBK := Lib.hid hbk
          have HBM := Lib.hid hbm
          have HFK := Lib.hid hfk
          have HA0 := Lib.hid ha0
          have HB0 := Lib.hid hb0
          clear hat hat' hna hnb hfk hbk hbm ha0 hb0 hkl
          generalize ks.getD k [] = kid at *
          obtain ⟨lk, hlk⟩ : ∃ lk, kid.length = lk := ⟨_, rfl⟩
          rw [hlk] at hl HA0 HB0
          have HLK := Lib.hid hlk
          clear hlk
          go_wp2
          refine wp_region_R Grow (n := 10) rfl (by kernel_rfl) ?_
          intro W0 hW0e hW0
          have p0 : ∀ wg, Grow W0 wg → wg.cell? ⟨bk, ok + k, none⟩ = some (.slice AA lk ca) := fun wg h => ((hW0.trans h).cell (p := ⟨bk, ok + k, none⟩) HBK.out).trans HA0.out
          have q0 : ∀ wg, Grow W0 wg → wg.cell? ⟨bm, om + k, none⟩ = some (.slice AB lk cb) := fun wg h => ((hW0.trans h).cell (p := ⟨bm, om + k, none⟩) HBM.out).trans HB0.out
          have HW0 := Lib.hid hW0
          clear hW0
          clear hW0e
          refine wpR_take growOrd (i := 0) (v := ?vf1) rfl (by kernel_rfl) (by kernel_rfl) (by kernel_rfl) (fun _ _ _ h => h) (by rfl) ?hf1 ?rf1
          case hf1 => (intro wg hSw; go_simp <;> with_reducible rfl)
          simp only [Act.put, List.setIfInBounds_toArray, List.set_cons_zero, List.set_cons_succ]
          refine wpR_take growOrd (i := 1) (v := ?vf2) rfl (by kernel_rfl) (by kernel_rfl) (by kernel_rfl) (fun _ _ _ h => h) (by rfl) ?hf2 ?rf2
          case hf2 => (intro wg hSw; go_simp <;> with_reducible rfl)
          simp only [Act.put, List.setIfInBounds_toArray, List.set_cons_zero, List.set_cons_succ]
          refine wpR_take growOrd (i := 2) (v := ?vf3) rfl (by kernel_rfl) (by kernel_rfl) (by kernel_rfl) (fun _ _ _ h => h) (by rfl) ?hf3 ?rf3
          case hf3 => (intro wg hSw; go_simp <;> with_reducible rfl)
          simp only [Act.put, List.setIfInBounds_toArray, List.set_cons_zero, List.set_cons_succ]
          refine wpR_take growOrd (i := 3) (v := ?vf4) rfl (by kernel_rfl) (by kernel_rfl) (by kernel_rfl) (fun _ _ _ h => h) (by rfl) ?hf4 ?rf4
          case hf4 => (intro wg hSw; go_simp <;> with_reducible rfl)
          simp only [Act.put, List.setIfInBounds_toArray, List.set_cons_zero, List.set_cons_succ]
          refine wpR_take growOrd (i := 4) (v := ?vf5) rfl (by kernel_rfl) (by kernel_rfl) (by kernel_rfl) (fun _ _ _ h => h) (by rfl) ?hf5 ?rf5
          case hf5 => (intro wg hSw; go_simp <;> with_reducible rfl)
          simp only [Act.put, List.setIfInBounds_toArray, List.set_cons_zero, List.set_cons_succ]
          refine wpR_take growOrd (i := 5) (v := ?vf6) rfl (by kernel_rfl) (by kernel_rfl) (by kernel_rfl) (fun _ _ _ h => h) (by rfl) ?hf6 ?rf6
          case hf6 => (intro wg hSw; go_simp <;> with_reducible rfl)
          simp only [Act.put, List.setIfInBounds_toArray, List.set_cons_zero, List.set_cons_succ]
          refine wpR_take growOrd (i := 6) (v := ?vf7) rfl (by kernel_rfl) (by kernel_rfl) (by kernel_rfl) (fun _ _ _ h => h) (by rfl) ?hf7 ?rf7
          case hf7 => (intro wg hSw; go_simp <;> with_reducible rfl)
          simp only [Act.put, List.setIfInBounds_toArray, List.set_cons_zero, List.set_cons_succ]
          refine wpR_take growOrd (i := 7) (v := ?vf8) rfl (by kernel_rfl) (by kernel_rfl) (by kernel_rfl) (fun _ _ _ h => h) (by rfl) ?hf8 ?rf8
          case hf8 => (intro wg hSw; go_simp <;> with_reducible rfl)
          simp only [Act.put, List.setIfInBounds_toArray, List.set_cons_zero, List.set_cons_succ]
          refine wpR_one (i := 8) (by kernel_rfl) ?_
          refine wpR_op (i := 8) rfl (by rfl) (fun K hK => ?_)
          go_simp
          refine (rsameN_any AA AB lk lk ca cb kid kid W0 HLK.out HLK.out hl hl HFK.out HFK.out (HNAK.out.grow (HW0.out.trans ((growOrd).refl W0))) (HNBK.out.grow (HW0.out.trans ((growOrd).refl W0)))).mono ?_
          rw [decide_eq_true rfl]
          rintro e wM8 ⟨rfl, hN8⟩
          have hM8 : Grow W0 wM8 := hN8
          clear p0 q0
          refine hK.out _ _ hM8 ?_
          clear hK K
          try simp only [Act.put, List.setIfInBounds_toArray, List.set_cons_zero, List.set_cons_succ]
          refine wpR_take growOrd (i := 9) (v := ?vf9) rfl (by kernel_rfl) (by kernel_rfl) (by kernel_rfl) (fun _ _ _ h => h) (by rfl) ?hf9 ?rf9
          case hf9 => (intro wg hSw; go_simp <;> with_reducible rfl)
          simp only [Act.put, List.setIfInBounds_toArray, List.set_cons_zero, List.set_cons_succ]
          refine wpR_done (by kernel_rfl) ?_
          have HGW := Lib.hid (HG.out.trans (HW0.out.trans ((growOrd).trans ((growOrd).refl W0) hM8)))
          go_wp2
          go_roundg (nk - (k + 1))
          case rel => exact ⟨k + 1, by omega, rfl, by go_num, HGW⟩
          case measure => omega
        · obtain rfl : nk = k := by omega
          have hnn : ¬ ((nk : Nat) : Int) < ((nk : Nat) : Int) := by omega
          obtain ⟨w6, h6⟩ : ∃ w6, w6 = wr := ⟨_, rfl⟩
          subst h6
          have HG6 := Lib.hid (HG5.out.trans HG.out)
          have HNA6 := Lib.hid (HNA5.out.grow HG.out)
          have HNB6 := Lib.hid (HNB5.out.grow HG.out)
          clear HG5 HNA5 HNB5 HG HK5 HM5 HKF
          go_wp2_with fail
          refine (copy_any A n c xs _ HN.out hn6 HFX.out HNA6.out).mono ?_
          rintro e w7 ⟨rfl, hcp, hg7⟩
          obtain ⟨gc, hgc⟩ : ∃ gc, w6.heap.size = gc := ⟨_, rfl⟩
          rw [hgc] at hcp ⊢
          have HGC := Lib.hid hgc
          obtain ⟨f, hsh⟩ := hcp.shell
          have HSH := Lib.hid hsh
          have HNC := Lib.hid hcp.nodes
          have HG7 := Lib.hid hg7
          clear hgc hcp hsh hg7
          go_wp2_with fail
          refine (rsameN_any _ A n n n c xs xs w7 HN.out HN.out hn6 hn6 HFX.out HFX.out HNC.out (HNA6.out.grow HG7.out)).mono ?_
          rw [decide_eq_true rfl]
          rintro e w8 ⟨rfl, hg8⟩
          have HG8 := Lib.hid (HG7.out.trans hg8)
          have HSH8 := Lib.hid (HSH.out.grow hg8)
          clear hg8 HG7 HSH HNC
          go_wp2
          go_loopg [13] n (fun g s13 wq => ∃ i : Nat, i ≤ n ∧ g = n - i ∧ s13 = .int .i64 i ∧ Hid (Shell gc f xs wq) ∧ Hid (Grow w6 wq))
          case atStart => exact ⟨0, Nat.zero_le _, rfl, rfl, HSH8, HG8⟩
          case round =>
            obtain ⟨i, hi, rfl, rfl, HS, HGQ⟩ := hrel
            by_cases hlt : i < n
            · have hlti : ((i : Nat) : Int) < ((n : Nat) : Int) := by omega
              have hil : i < xs.length := by rw [HN.out]; exact hlt
              obtain ⟨b1, b2, g1, g2, e1, e2, r1, r2⟩ := HS.out.2 i hil
              have hfi := HFX.out.at_ i
              obtain ⟨L1, hL1⟩ : ∃ L1, (xs.getD i nd0).shp.length = L1 := ⟨_, rfl⟩
              obtain ⟨L2, hL2⟩ : ∃ L2, (xs.getD i nd0).ints.length = L2 := ⟨_, rfl⟩
              rw [hL1] at e1 r1
              rw [hL2] at e2 r2
              have hl1 : L1 ≤ 1000000 := by rw [← hL1]; exact hfi.2.1
              have hl2 : L2 ≤ 1000000 := by rw [← hL2]; exact hfi.2.2.1
              have HE1 := Lib.hid e1
              have HE2 := Lib.hid e2
              have HR1 := Lib.hid r1
              have HR2 := Lib.hid r2
              have HB1 := Lib.hid g1
              have HB2 := Lib.hid g2
              have HIL : Hid (i * 4 + 2 < xs.length * 4) := Lib.hid (by omega)
              clear e1 e2 r1 r2 hL1 hL2 hfi g1 g2 hil
              go_wp2
              go_loopg [14] L2 (fun g s14 wq => ∃ j : Nat, j ≤ L2 ∧ g = L2 - j ∧ s14 = .int .i64 j ∧ Hid (Shell gc f xs wq) ∧ Hid (Grow w6 wq) ∧ Hid (RowOf wq b1 L1) ∧ Hid (RowOf wq b2 L2))
              case atStart => exact ⟨0, Nat.zero_le _, rfl, rfl, HS, HGQ, HR1, HR2⟩
              case round =>
                obtain ⟨j, hj, rfl, rfl, HS2, HGQ2, HR1, HR2⟩ := hrel
                have c2 := (HS2.out.1.cell (i := i * 4 + 2) HIL.out).trans (congrArg some HE2.out)
                by_cases hjl : j < L2
                · have hjli : ((j : Nat) : Int) < ((L2 : Nat) : Int) := by omega
                  obtain ⟨v0, hv0⟩ := HR2.out.at_ hjl
                  have fz := HR2.out.froz j
                  have HS3 := Lib.hid (HS2.out.set (j := j) HB2.out (.int .i64 77))
                  have HGQ3 := Lib.hid (HGQ2.out.put (b := b2) (by rw [HGC.out]; exact Nat.le_of_lt HB2.out) j (.int .i64 77))
                  have HR13 := Lib.hid (HR1.out.set (b' := b2) (j := j) (v := .int .i64 77))
                  have HR23 := Lib.hid (HR2.out.set (b' := b2) (j := j) (v := .int .i64 77))
                  go_wp2
                  go_roundg (L2 - (j + 1))
                  case rel => exact ⟨j + 1, by omega, rfl, by go_num, HS3, HGQ3, HR13, HR23⟩
                  case measure => omega
                · obtain rfl : L2 = j := by omega
                  have hll : ¬ ((L2 : Nat) : Int) < ((L2 : Nat) : Int) := by omega
                  go_wp2
                  clear c2
                  go_loopg [15] L1 (fun g s15 wq => ∃ j : Nat, j ≤ L1 ∧ g = L1 - j ∧ s15 = .int .i64 j ∧ Hid (Shell gc f xs wq) ∧ Hid (Grow w6 wq) ∧ Hid (RowOf wq b1 L1))
                  case atStart => exact ⟨0, Nat.zero_le _, rfl, rfl, HS2, HGQ2, HR1⟩
                  case round =>
                    obtain ⟨j, hj, rfl, rfl, HS4, HGQ4, HR4⟩ := hrel
                    have c1 := (HS4.out.1.cell (i := i * 4 + 1) (by have := HIL.out; omega)).trans (congrArg some HE1.out)
                    by_cases hjl : j < L1
                    · have hjli : ((j : Nat) : Int) < ((L1 : Nat) : Int) := by omega
                      obtain ⟨v0, hv0⟩ := HR4.out.at_ hjl
                      have fz := HR4.out.froz j
                      have HS5 := Lib.hid (HS4.out.set (j := j) HB1.out (.int .i64 77))
                      have HGQ5 := Lib.hid (HGQ4.out.put (b := b1) (by rw [HGC.out]; exact Nat.le_of_lt HB1.out) j (.int .i64 77))
                      have HR5 := Lib.hid (HR4.out.set (b' := b1) (j := j) (v := .int .i64 77))
                      go_wp2
                      go_roundg (L1 - (j + 1))
                      case rel => exact ⟨j + 1, by omega, rfl, by go_num, HS5, HGQ5, HR5⟩
                      case measure => omega
                    · obtain rfl : L1 = j := by omega
                      have hll : ¬ ((L1 : Nat) : Int) < ((L1 : Nat) : Int) := by omega
                      go_wp2
                      go_roundg (n - (i + 1))
                      case rel => exact ⟨i + 1, by omega, rfl, by go_num, HS4, HGQ4⟩
                      case measure => omega
            · obtain rfl : n = i := by omega
              have hnn2 : ¬ ((n : Nat) : Int) < ((n : Nat) : Int) := by omega
              have HGA := Lib.hid (HG6.out.trans HGQ.out)
              have HNX := Lib.hid (HNA6.out.grow HGQ.out)
              have HNY := Lib.hid (HNB6.out.grow HGQ.out)
              clear HS HGQ HSH8 HG8 HG6 HNA6 HNB6
              obtain ⟨β, hβ⟩ : ∃ β, rightA xs = β := ⟨_, rfl⟩
              obtain ⟨z, hz⟩ : ∃ z, takeA xs = z := ⟨_, rfl⟩
              obtain ⟨qi, hqi⟩ : ∃ q, (ws xs).i = q := ⟨_, rfl⟩
              obtain ⟨qd, hqd⟩ : ∃ q, (ws xs).d = q := ⟨_, rfl⟩
              obtain ⟨qr, hqr⟩ : ∃ q, (ws xs).r = q := ⟨_, rfl⟩
              obtain ⟨γ, hγ⟩ : ∃ γ, decide (xs = ys) = γ := ⟨_, rfl⟩
              have HR2 := Lib.hid (fun W h => rrightA_any A n c xs W HN.out hn6 hnc HFX.out h)
              have HT2 := Lib.hid (fun W h => rtake_any A n c xs W HN.out hn6 hnc HFX.out h)
              have HI2 := Lib.hid (fun W h => ritems_any A n c xs W HN.out hn6 hnc HFX.out h)
              have HD2 := Lib.hid (fun W h => rdepth_any A n c xs W HN.out hn6 hnc HFX.out h)
              have HK2 := Lib.hid (fun W h => rrank_any A n c xs W HN.out hn6 hnc HFX.out h)
              have HS2 := Lib.hid (fun W h1 h2 => rsameN_any A A' n n' c c' xs ys W HN.out HN'.out hn6 hn6' HFX.out HFY.out h1 h2)
              rw [hβ] at HR2
              rw [hz] at HT2
              rw [hqi] at HI2
              rw [hqd] at HD2
              rw [hqr] at HK2
              rw [hγ] at HS2
              have Hβ := Lib.hid hβ
              have Hz := Lib.hid (show (fs xs).n = z from hz)
              have Hi := Lib.hid hqi
              have Hd := Lib.hid hqd
              have Hr := Lib.hid hqr
              have Hγ := Lib.hid hγ
              have bβ : (β == β) = true := by simp
              have bγ : (γ == γ) = true := by simp
              have bz : (((z : Nat) : Int) == ((z : Nat) : Int)) = true := by simp
              have bi : (((qi : Nat) : Int) == ((qi : Nat) : Int)) = true := by simp
              have bd : (((qd : Nat) : Int) == ((qd : Nat) : Int)) = true := by simp
              have br : (((qr : Nat) : Int) == ((qr : Nat) : Int)) = true := by simp
              clear hβ hz hqi hqd hqr hγ
              go_wp2_with fail
              refine (right_says Hβ.out A n c _ HN.out hn6 HFX.out HNX.out).mono ?_
              rintro e wz1 ⟨rfl, hgz⟩
              have HGA1 := Lib.hid (HGA.out.trans hgz)
              have HNX1 := Lib.hid (HNX.out.grow hgz)
              have HNY1 := Lib.hid (HNY.out.grow hgz)
              clear hgz HGA HNX HNY
              go_wp2_with fail
              refine (HR2.out _ HNX1.out).mono ?_
              rintro e wz2 ⟨rfl, hgz⟩
              have HGA2 := Lib.hid (HGA1.out.trans hgz)
              have HNX2 := Lib.hid (HNX1.out.grow hgz)
              have HNY2 := Lib.hid (HNY1.out.grow hgz)
              clear hgz HGA1 HNX1 HNY1
              go_wp2_with fail
              refine (take_says Hz.out A n c _ HN.out hn6 HFX.out HNX2.out).mono ?_
              rintro e wz3 ⟨rfl, hgz⟩
              have HGA3 := Lib.hid (HGA2.out.trans hgz)
              have HNX3 := Lib.hid (HNX2.out.grow hgz)
              have HNY3 := Lib.hid (HNY2.out.grow hgz)
              clear hgz HGA2 HNX2 HNY2
              go_wp2_with fail
              refine (HT2.out _ HNX3.out).mono ?_
              rintro e wz4 ⟨rfl, hgz⟩
              have HGA4 := Lib.hid (HGA3.out.trans hgz)
              have HNX4 := Lib.hid (HNX3.out.grow hgz)
              have HNY4 := Lib.hid (HNY3.out.grow hgz)
              clear hgz HGA3 HNX3 HNY3
              go_wp2_with fail
              refine (items_says Hi.out A n c _ HN.out hn6 HFX.out HNX4.out).mono ?_
              rintro e wz5 ⟨rfl, hgz⟩
              have HGA5 := Lib.hid (HGA4.out.trans hgz)
              have HNX5 := Lib.hid (HNX4.out.grow hgz)
              have HNY5 := Lib.hid (HNY4.out.grow hgz)
              clear hgz HGA4 HNX4 HNY4
              go_wp2_with fail
              refine (HI2.out _ HNX5.out).mono ?_
              rintro e wz6 ⟨rfl, hgz⟩
              have HGA6 := Lib.hid (HGA5.out.trans hgz)
              have HNX6 := Lib.hid (HNX5.out.grow hgz)
              have HNY6 := Lib.hid (HNY5.out.grow hgz)
              clear hgz HGA5 HNX5 HNY5
              go_wp2_with fail
              refine (depth_says Hd.out A n c _ HN.out hn6 HFX.out HNX6.out).mono ?_
              rintro e wz7 ⟨rfl, hgz⟩
              have HGA7 := Lib.hid (HGA6.out.trans hgz)
              have HNX7 := Lib.hid (HNX6.out.grow hgz)
              have HNY7 := Lib.hid (HNY6.out.grow hgz)
              clear hgz HGA6 HNX6 HNY6
              go_wp2_with fail
              refine (HD2.out _ HNX7.out).mono ?_
              rintro e wz8 ⟨rfl, hgz⟩
              have HGA8 := Lib.hid (HGA7.out.trans hgz)
              have HNX8 := Lib.hid (HNX7.out.grow hgz)
              have HNY8 := Lib.hid (HNY7.out.grow hgz)
              clear hgz HGA7 HNX7 HNY7
              go_wp2_with fail
              refine (rank_says Hr.out A n c _ HN.out hn6 HFX.out HNX8.out).mono ?_
              rintro e wz9 ⟨rfl, hgz⟩
              have HGA9 := Lib.hid (HGA8.out.trans hgz)
              have HNX9 := Lib.hid (HNX8.out.grow hgz)
              have HNY9 := Lib.hid (HNY8.out.grow hgz)
              clear hgz HGA8 HNX8 HNY8
              go_wp2_with fail
              refine (HK2.out _ HNX9.out).mono ?_
              rintro e wz10 ⟨rfl, hgz⟩
              have HGA10 := Lib.hid (HGA9.out.trans hgz)
              have HNX10 := Lib.hid (HNX9.out.grow hgz)
              have HNY10 := Lib.hid (HNY9.out.grow hgz)
              clear hgz HGA9 HNX9 HNY9
              go_wp2_with fail
              refine (same_says Hγ.out A A' n n' c c' _ HN.out HN'.out hn6 hn6' HFX.out HFY.out HNX10.out HNY10.out).mono ?_
              rintro e wz11 ⟨rfl, hgz⟩
              have HGA11 := Lib.hid (HGA10.out.trans hgz)
              have HNX11 := Lib.hid (HNX10.out.grow hgz)
              have HNY11 := Lib.hid (HNY10.out.grow hgz)
              clear hgz HGA10 HNX10 HNY10
              go_wp2_with fail
              refine (HS2.out _ HNX11.out HNY11.out).mono ?_
              rintro e wz12 ⟨rfl, hgz⟩
              have HGA12 := Lib.hid (HGA11.out.trans hgz)
              have HNX12 := Lib.hid (HNX11.out.grow hgz)
              have HNY12 := Lib.hid (HNY11.out.grow hgz)
              clear hgz HGA11 HNX11 HNY11
              go_wp2
              go_ret
              exact ⟨rfl, HGA12.out⟩
end Go.Proofs.Ytfdlngcaopcaoaa
