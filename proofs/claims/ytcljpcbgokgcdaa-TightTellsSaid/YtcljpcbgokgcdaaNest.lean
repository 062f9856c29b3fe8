/-
  What array.Nest comes to, called with any shape and any rows.
-/
import Derived.Test.YtcljpcbgokgcdaaHoldsA
import Derived.Test.YtcljpcbgokgcdaaKidsM
import Derived.ArgAppend
import Derived.BigRegion
namespace Go.Proofs.Ytcljpcbgokgcdaa
open Go.RowKit Go.Lib
set_option linter.unusedSimpArgs false
set_option linter.unusedVariables false

theorem run_append_nothing (t ty e : TypeId) (i : TypeInfo) (ht : Try.prog.underlying t = some (.slice e)) (hi : Try.prog.info? e = some i) (b : Addr) (n c : Nat) (A : Option Addr) (w : World) :
    (Builtin.append_ #[t, t] ty #[.slice (some b) n n, .slice A 0 c]).run Try.prog w = .ok (.slice (some b) n n) w := by
  cases A <;> simp [Builtin.append_, run_underlying ht, sizeOf, typeInfo, hi, Builtin.lenOf, Builtin.firstCells, loadCells, loadCellsFrom, storeCells]
/-- nodes behind nodes that have no room -/
theorem wp_join {o : Oper} {a : Act} {w : World} {K : Act → World → Prop} {Q : Exit → Act → World → Prop} (s x : Operand)
    (ho : o.op = .call { callee := .builtin .append, args := #[s, x], argTypes := #[22, 22] }) (ad : Addr) (n m c : Nat) (A : Option Addr) (ns ms : List Nd)
    (hs : a.eval s = .slice (some ad) n n) (hx : a.eval x = .slice A m c) (hn : ns.length = n) (hm : ms.length = m) (h0 : 0 < n) (hns : Nodes w w.heap.size (some ad) ns) (hms : Nodes w w.heap.size A ms) (hb : n + m ≤ 1000000000)
    (h : ∀ A' c' w', Nodes w' w'.heap.size A' (ns ++ ms) → n + m ≤ c' → Grow w w' → K (a.put o.dst (.slice A' (n + m) c')) w') : o.wp Try.prog a w K Q := by
  obtain ⟨i0, hi, hz0, hz1, hz2⟩ := info_of info_node
  by_cases hm0 : m = 0
  · subst hm0
    have hr := run_append_nothing 22 o.type 30 i0 Try.underlying22 hi ad n c A w
    unfold Oper.wp
    simp [execOp, ho, resolve, invoke, builtin, hs, hx, hr, Result.andThen]
    exact h _ _ _ (by rw [List.eq_nil_of_length_eq_zero hm, List.append_nil]; exact hns) (Nat.le_refl _) (Grow.refl _)
  · obtain ⟨us, hu, hu1, hus⟩ := raw_of hns
    obtain ⟨vs, hv, hv1, hvs⟩ := raw_of hms
    have hul : us.length = n * 4 := by rw [hu.1, hn]
    have hvl : vs.length = m * 4 := by rw [hv.1, hm]
    obtain ⟨ad', e1, huc⟩ := hus (by omega)
    cases e1
    obtain ⟨av, rfl, hvc⟩ := hvs (by omega)
    obtain ⟨v', w', hr, h2, h3⟩ := run_append_arg_grows (P := Try.prog) w 22 o.type 30 i0 _ 4 80 Try.underlying22 hi hz0 hz1 hz2 rfl (by decide) ad n n us hul huc av m c vs hvl hvc (by omega) (by unfold maxLen; omega) (by omega)
    have hg : Grow w w' := (Below.refl _ _).grown h3 (Nat.le_refl _) (fun k hk => by cases hk)
    obtain ⟨A', c', rfl, hc', _, hN⟩ := own_nodes h2 (((hu.app hv).below hg).more hg.size) (by rw [List.length_append, hn, hm])
    unfold Oper.wp
    simp [execOp, ho, resolve, invoke, builtin, hs, hx, hr, Result.andThen]
    exact h _ _ _ hN hc' hg

theorem fits_flat {ks : List (List Nd)} (h : FitK ks) : Fits (flatK ks) := by
  induction ks with
  | nil => intro n hn; cases hn
  | cons k ks ih =>
    intro n hn
    rcases List.mem_append.1 hn with hn | hn
    · exact (h k (by simp)).2 n hn
    · exact ih (fun k' hk' => h k' (by simp [hk'])) n hn
theorem fits_cons {n : Nd} {l : List Nd} (h : Fit n) (hl : Fits l) : Fits (n :: l) := fun k hk => by
  rcases List.mem_cons.1 hk with rfl | hk
  · exact h
  · exact hl k hk
def nest5 (sh : List Int) : Nd := ⟨5, sh, [], []⟩
def nestB (sh : List Int) (ks : List (List Nd)) : Bool := okB (nest5 sh) && (decide (ks.length = itm (nest5 sh)) && holdK (itm (nest5 sh)) ks)
theorem holdK_right : ∀ {m : Nat} {ks : List (List Nd)}, holdK m ks = true → ∀ k ∈ ks, rightA k = true
  | _, [], _, k, hk => by cases hk
  | m, k0 :: ks, h, k, hk => by
    simp only [holdK, holdB1, Bool.and_eq_true] at h
    rcases List.mem_cons.1 hk with rfl | hk
    · exact h.1.1
    · exact holdK_right h.2 k hk
theorem right_ne {k : List Nd} (h : rightA k = true) : k ≠ [] := (right_kidsy h).1
theorem nest_ne {sh : List Int} {ks : List (List Nd)} (h : nestB sh ks = true) : ∀ k ∈ ks, k ≠ [] := fun k hk => by
  simp only [nestB, Bool.and_eq_true] at h
  exact right_ne (holdK_right h.2.2 k hk)
def NestP (sh : List Int) (ks : List (List Nd)) (w : World) (e : Ending) (w' : World) : Prop :=
  Grow w w' ∧ ((nestB sh ks = false ∧ e = .returned (.tuple #[.slice none 0 0, .bool false])) ∨
    (nestB sh ks = true ∧ ∃ g, w.heap.size ≤ g ∧ e = .returned (.tuple #[.slice (some ⟨g, 0, none⟩) (1 + (flatK ks).length) (1 + (flatK ks).length), .bool true]) ∧ Copied w' g (nest5 sh :: flatK ks)))
theorem boxN_nodes {w : World} {g : Nat} {n : Nd} {A1 A2 A3 : Option Addr} {c1 c2 c3 : Nat} (h : BoxN w g n.kind A1 n.shp.length c1 A2 n.ints.length c2 A3 n.decs.length c3) (hn : IsNd w w.heap.size A1 A2 A3 n) : Nodes w w.heap.size (some ⟨g, 0, none⟩) [n] := fun _ => by
  refine ⟨g, 0, rfl, heap_lt h, fun i hi => ?_⟩
  obtain rfl : i = 0 := by simpa using hi
  exact ⟨A1, c1, A2, c2, A3, c3, h.at0, h.at1, h.at2, h.at3, hn⟩

set_option maxRecDepth 10000 in
set_option maxHeartbeats 3200000 in
theorem nest_any (A1 : Option Addr) (l1 c1 : Nat) (sh : List Int) (A : Option Addr) (n c : Nat) (ks : List (List Nd)) (w : World) (hsl : sh.length = l1) (hs1 : l1 ≤ 1100000) (hsh : Nums .i64 w w.heap.size A1 sh) (hn : ks.length = n) (hnb : n ≤ 9223372036854775807)
    (hf : FitK ks) (hT : (flatK ks).length ≤ 1099999) (hks : KidsAt w w.heap.size A ks) :
    Calls Try.prog 23 #[.slice A1 l1 c1, .slice A n c] w (NestP sh ks w) := by
  subst hsl
  have hfit : Fit (nest5 sh) := ⟨⟨show -9223372036854775808 ≤ (5 : Int) by decide, show (5 : Int) ≤ 9223372036854775807 by decide⟩, hs1, Nat.zero_le _, Nat.zero_le _, fun x hx => by cases hx⟩
  have HFIT := Lib.hid hfit
  have HSH := Lib.hid hsh
  have HN := Lib.hid hn
  have HF := Lib.hid hf
  have HT := Lib.hid hT
  have HKS := Lib.hid hks
  have HND : Hid (∀ W, Grow w W → IsNd W W.heap.size A1 none none (nest5 sh)) := Lib.hid (fun W hg => ⟨HSH.out.grow hg, Nums.none_, Decs.none_⟩)
  have HH := Lib.hid (fun W hg => holds_any (nest5 sh) A1 none none c1 0 0 A n c ks W hfit (HND.out W hg) hn hnb hf (hks.grow hg))
  have HB := Lib.hid (show nestB sh ks = (okB (nest5 sh) && (decide (n = itm (nest5 sh)) && holdK (itm (nest5 sh)) ks)) by rw [← hn]; rfl)
  rw [← HB.out] at HH
  have HBX := Lib.hid (boxN_new w 5 A1 sh.length c1 none 0 0 none 0 0)
  have HG1 := Lib.hid (grow_new w (.cells #[.int .i64 5, .slice A1 sh.length c1, .slice none 0 0, .slice none 0 0] 30))
  clear hfit hsh hn hf hT hks HB
  have HNE := Lib.hid (nest_ne (sh := sh) (ks := ks))
  cases hβ : nestB sh ks with
  | false =>
    rw [hβ] at HH
    have HP : Hid (∀ w', Grow w w' → NestP sh ks w (.returned (.tuple #[.slice none 0 0, .bool false])) w') := Lib.hid (fun w' h => ⟨h, .inl ⟨hβ, rfl⟩⟩)
    clear hβ HNE
    go_enter Try.func23, Try.ntmps23
    go_wp2_with fail
    refine (HH.out _ HG1.out).mono ?_
    rintro e w2 ⟨rfl, hg2⟩
    have HG2 := Lib.hid (HG1.out.trans hg2)
    clear hg2 HH
    go_wp2
    go_ret2
    exact HP.out _ HG2.out
  | true =>
    rw [hβ] at HH
    have HNE' := Lib.hid (HNE.out hβ)
    have HP : Hid (∀ g w', Grow w w' → w.heap.size ≤ g → Copied w' g (nest5 sh :: flatK ks) → NestP sh ks w (.returned (.tuple #[.slice (some ⟨g, 0, none⟩) (1 + (flatK ks).length) (1 + (flatK ks).length), .bool true])) w') := Lib.hid (fun g w' h h2 h3 => ⟨h, .inr ⟨hβ, g, h2, rfl, h3⟩⟩)
    clear hβ HNE
    go_enter Try.func23, Try.ntmps23
    go_wp2_with fail
    refine (HH.out _ HG1.out).mono ?_
    rintro e w2 ⟨rfl, hg2⟩
    have HG2 := Lib.hid (HG1.out.trans hg2)
    have HBX2 := Lib.hid (HBX.out.grow hg2)
    clear hg2 HH HG1 HBX
    go_wp2
    refine wp_region_R Grow (n := 8) rfl (by kernel_rfl) ?_
    intro W0 hW0e hW0
    have HW0 := Lib.hid (HG2.out.trans hW0)
    have HBX3 := Lib.hid (HBX2.out.grow hW0)
    have b0 : ∀ wg, Grow W0 wg → wg.cell? ⟨w.heap.size, 0, none⟩ = some (.int .i64 5) := fun wg h => (HBX3.out.grow h).at0
    have b1 : ∀ wg, Grow W0 wg → wg.cell? ⟨w.heap.size, 1, none⟩ = some (.slice A1 sh.length c1) := fun wg h => (HBX3.out.grow h).at1
    have b2 : ∀ wg, Grow W0 wg → wg.cell? ⟨w.heap.size, 2, none⟩ = some (.slice none 0 0) := fun wg h => (HBX3.out.grow h).at2
    have b3 : ∀ wg, Grow W0 wg → wg.cell? ⟨w.heap.size, 3, none⟩ = some (.slice none 0 0) := fun wg h => (HBX3.out.grow h).at3
    clear hW0
    clear hW0e
    refine wpR_take growOrd (i := 0) (v := ?vf1) rfl (by kernel_rfl) (by kernel_rfl) (by kernel_rfl) (fun _ _ _ h => h) (by rfl) ?hf1 ?rf1
    case hf1 => (intro wg hSw; go_simp <;> with_reducible rfl)
    simp only [Act.put, List.setIfInBounds_toArray, List.set_cons_zero, List.set_cons_succ]
    refine wpR_take growOrd (i := 2) (v := ?vf2) rfl (by kernel_rfl) (by kernel_rfl) (by kernel_rfl) (fun _ _ _ h => h) (by rfl) ?hf2 ?rf2
    case hf2 => (intro wg hSw; go_simp <;> with_reducible rfl)
    simp only [Act.put, List.setIfInBounds_toArray, List.set_cons_zero, List.set_cons_succ]
    refine wpR_two (i := 1) (j := 3) (by kernel_rfl) ?_ ?_
    · refine wpR_op (i := 1) rfl (by rfl) (fun K hK => ?_)
      go_simp
      refine hK.out _ _ (grow_new _ _) ?_
      clear hK K
      try simp only [Act.put, List.setIfInBounds_toArray, List.set_cons_zero, List.set_cons_succ]
      have hN1 : Grow W0 (World.alloc W0 (.cells #[.int .i64 5, .slice A1 sh.length c1, .slice none 0 0, .slice none 0 0] 30)) := grow_new _ _
      have hC1 : Nodes (World.alloc W0 (.cells #[.int .i64 5, .slice A1 sh.length c1, .slice none 0 0, .slice none 0 0] 30)) (World.alloc W0 (.cells #[.int .i64 5, .slice A1 sh.length c1, .slice none 0 0, .slice none 0 0] 30)).heap.size (some ⟨(W0).heap.size, 0, none⟩) [nest5 sh] := boxN_nodes (n := nest5 sh) (boxN_new W0 5 A1 sh.length c1 none 0 0 none 0 0) (HND.out _ ((HW0.out.trans ((growOrd).refl W0)).trans hN1))
      generalize World.alloc W0 _ = wM1 at hC1 hN1 ⊢
      have hM1 : Grow W0 wM1 := hN1
      refine wpR_one (i := 3) (by kernel_rfl) ?_
      refine wpR_op (i := 3) rfl (by rfl) (fun K hK => ?_)
      go_simp
      refine (concat_any A n c ks wM1 HN.out hnb HNE'.out (Nat.le_trans HT.out (by decide)) (HKS.out.grow (HW0.out.trans ((growOrd).trans ((growOrd).refl W0) hM1)))).mono ?_
      rintro e wM3 ⟨v3, vals3, rfl, hN3, ho3, hr3⟩
      have hM3 : Grow wM1 wM3 := hN3
      obtain ⟨A3, c3', rfl, hlc3, -, hC3⟩ := own_nodes ho3 (hr3.more hN3.size) rfl
      clear ho3 hr3 hlc3
      refine hK.out _ _ hM3 ?_
      clear hK K
      try simp only [Act.put, List.setIfInBounds_toArray, List.set_cons_zero, List.set_cons_succ]
      refine wpR_one (i := 4) (by kernel_rfl) ?_
      refine wpR_op (i := 4) rfl (by rfl) (fun K hK => ?_)
      refine wp_join _ _ rfl _ 1 (flatK ks).length _ A3 [nest5 sh] (flatK ks) rfl rfl rfl rfl (by decide) (hC1.grow hN3) hC3 (by have := HT.out; omega) ?_
      intro A4 c4 wM4 hC4 hlc4 hN4
      have hM4 : Grow wM3 wM4 := hN4
      refine hK.out _ _ hM4 ?_
      clear hK K
      try simp only [Act.put, List.setIfInBounds_toArray, List.set_cons_zero, List.set_cons_succ]
      refine wpR_one (i := 5) (by kernel_rfl) ?_
      refine wpR_op (i := 5) rfl (by rfl) (fun K hK => ?_)
      go_simp
      refine (copy_any A4 (1 + (flatK ks).length) c4 (nest5 sh :: flatK ks) wM4 (by rw [List.length_cons]; omega) (by have := HT.out; omega) (fits_cons HFIT.out (fits_flat HF.out)) hC4).mono ?_
      rintro e wM5 ⟨rfl, hcp, hN5⟩
      have hM5 : Grow wM4 wM5 := hN5
      have HCP := Lib.hid hcp
      have HSZ := Lib.hid (show w.heap.size ≤ (wM4).heap.size from (HW0.out.trans ((growOrd).trans ((growOrd).trans ((growOrd).trans ((growOrd).refl W0) hM1) hM3) hM4)).size)
      clear hcp
      refine hK.out _ _ hM5 ?_
      clear hK K
      try simp only [Act.put, List.setIfInBounds_toArray, List.set_cons_zero, List.set_cons_succ]
      refine wpR_take growOrd (i := 6) (v := ?vf3) rfl (by kernel_rfl) (by kernel_rfl) (by kernel_rfl) (fun _ _ _ h => h) (by rfl) ?hf3 ?rf3
      case hf3 => (intro wg hSw; go_simp <;> with_reducible rfl)
      simp only [Act.put, List.setIfInBounds_toArray, List.set_cons_zero, List.set_cons_succ]
      refine wpR_take growOrd (i := 7) (v := ?vf4) rfl (by kernel_rfl) (by kernel_rfl) (by kernel_rfl) (fun _ _ _ h => h) (by rfl) ?hf4 ?rf4
      case hf4 => (intro wg hSw; go_simp <;> with_reducible rfl)
      simp only [Act.put, List.setIfInBounds_toArray, List.set_cons_zero, List.set_cons_succ]
      refine wpR_done (by kernel_rfl) ?_
      have HGW := Lib.hid (HW0.out.trans ((growOrd).trans ((growOrd).trans ((growOrd).trans ((growOrd).trans ((growOrd).refl W0) hM1) hM3) hM4) hM5))
      clear b0 b1 b2 b3
      go_wp2
      go_ret2
      exact HP.out _ _ HGW.out HSZ.out HCP.out
    · refine wpR_op (i := 3) rfl (by rfl) (fun K hK => ?_)
      go_simp
      refine (concat_any A n c ks W0 HN.out hnb HNE'.out (Nat.le_trans HT.out (by decide)) (HKS.out.grow (HW0.out.trans ((growOrd).refl W0)))).mono ?_
      rintro e wM3 ⟨v3, vals3, rfl, hN3, ho3, hr3⟩
      have hM3 : Grow W0 wM3 := hN3
      obtain ⟨A3, c3', rfl, hlc3, -, hC3⟩ := own_nodes ho3 (hr3.more hN3.size) rfl
      clear ho3 hr3 hlc3
      refine hK.out _ _ hM3 ?_
      clear hK K
      try simp only [Act.put, List.setIfInBounds_toArray, List.set_cons_zero, List.set_cons_succ]
      refine wpR_one (i := 1) (by kernel_rfl) ?_
      refine wpR_op (i := 1) rfl (by rfl) (fun K hK => ?_)
      go_simp
      refine hK.out _ _ (grow_new _ _) ?_
      clear hK K
      try simp only [Act.put, List.setIfInBounds_toArray, List.set_cons_zero, List.set_cons_succ]
      have hN1 : Grow wM3 (World.alloc wM3 (.cells #[.int .i64 5, .slice A1 sh.length c1, .slice none 0 0, .slice none 0 0] 30)) := grow_new _ _
      have hC1 : Nodes (World.alloc wM3 (.cells #[.int .i64 5, .slice A1 sh.length c1, .slice none 0 0, .slice none 0 0] 30)) (World.alloc wM3 (.cells #[.int .i64 5, .slice A1 sh.length c1, .slice none 0 0, .slice none 0 0] 30)).heap.size (some ⟨(wM3).heap.size, 0, none⟩) [nest5 sh] := boxN_nodes (n := nest5 sh) (boxN_new wM3 5 A1 sh.length c1 none 0 0 none 0 0) (HND.out _ ((HW0.out.trans ((growOrd).trans ((growOrd).refl W0) hM3)).trans hN1))
      generalize World.alloc wM3 _ = wM1 at hC1 hN1 ⊢
      have hM1 : Grow wM3 wM1 := hN1
      refine wpR_one (i := 4) (by kernel_rfl) ?_
      refine wpR_op (i := 4) rfl (by rfl) (fun K hK => ?_)
      refine wp_join _ _ rfl _ 1 (flatK ks).length _ A3 [nest5 sh] (flatK ks) rfl rfl rfl rfl (by decide) hC1 (hC3.grow hN1) (by have := HT.out; omega) ?_
      intro A4 c4 wM4 hC4 hlc4 hN4
      have hM4 : Grow wM1 wM4 := hN4
      refine hK.out _ _ hM4 ?_
      clear hK K
      try simp only [Act.put, List.setIfInBounds_toArray, List.set_cons_zero, List.set_cons_succ]
      refine wpR_one (i := 5) (by kernel_rfl) ?_
      refine wpR_op (i := 5) rfl (by rfl) (fun K hK => ?_)
      go_simp
      refine (copy_any A4 (1 + (flatK ks).length) c4 (nest5 sh :: flatK ks) wM4 (by rw [List.length_cons]; omega) (by have := HT.out; omega) (fits_cons HFIT.out (fits_flat HF.out)) hC4).mono ?_
      rintro e wM5 ⟨rfl, hcp, hN5⟩
      have hM5 : Grow wM4 wM5 := hN5
      have HCP := Lib.hid hcp
      have HSZ := Lib.hid (show w.heap.size ≤ (wM4).heap.size from (HW0.out.trans ((growOrd).trans ((growOrd).trans ((growOrd).trans ((growOrd).refl W0) hM3) hM1) hM4)).size)
      clear hcp
      refine hK.out _ _ hM5 ?_
      clear hK K
      try simp only [Act.put, List.setIfInBounds_toArray, List.set_cons_zero, List.set_cons_succ]
      refine wpR_take growOrd (i := 6) (v := ?vf5) rfl (by kernel_rfl) (by kernel_rfl) (by kernel_rfl) (fun _ _ _ h => h) (by rfl) ?hf5 ?rf5
      case hf5 => (intro wg hSw; go_simp <;> with_reducible rfl)
      simp only [Act.put, List.setIfInBounds_toArray, List.set_cons_zero, List.set_cons_succ]
      refine wpR_take growOrd (i := 7) (v := ?vf6) rfl (by kernel_rfl) (by kernel_rfl) (by kernel_rfl) (fun _ _ _ h => h) (by rfl) ?hf6 ?rf6
      case hf6 => (intro wg hSw; go_simp <;> with_reducible rfl)
      simp only [Act.put, List.setIfInBounds_toArray, List.set_cons_zero, List.set_cons_succ]
      refine wpR_done (by kernel_rfl) ?_
      have HGW := Lib.hid (HW0.out.trans ((growOrd).trans ((growOrd).trans ((growOrd).trans ((growOrd).trans ((growOrd).refl W0) hM3) hM1) hM4) hM5))
      clear b0 b1 b2 b3
      go_wp2
      go_ret2
      exact HP.out _ _ HGW.out HSZ.out HCP.out
end Go.Proofs.Ytcljpcbgokgcdaa
