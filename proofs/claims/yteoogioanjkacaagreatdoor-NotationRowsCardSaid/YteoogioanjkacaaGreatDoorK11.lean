/-
  Contracts, joined: TightD, TightE, LNests. Nothing is claimed here by itself.
-/
import Derived.Test.YteoogioanjkacaaGreatDoorK10
namespace Go.Proofs.YteoogioanjkacaaGreatDoor
set_option maxRecDepth 20000
set_option linter.unusedVariables false
set_option linter.unusedSimpArgs false
theorem valsR_ok {n : Nd} (h : okB n = true) (hk : n.kind ≠ 3) : valsR n = valsN n := by
  have hfl := (ok_right h).2
  have hz : n.ints = [] ∨ n.decs = [] := by
    unfold fillB at hfl
    by_cases h1 : n.kind = 1
    · simp [h1] at hfl; exact .inr hfl.1.2
    · by_cases h2 : n.kind = 2
      · simp [h2] at hfl; exact .inr hfl.2
      · by_cases h4 : n.kind = 4
        · simp [h4] at hfl; exact .inl hfl.1.1
        · by_cases h5 : n.kind = 5
          · simp [h5] at hfl; first | exact .inl hfl.1 | exact .inr hfl.2 | exact .inl hfl.1.1
          · simp [h1, h2, h4, h5, hk] at hfl
  rcases hz with h | h <;> simp [valsR, valsN, h]
def plainS (h : Nd) : Prop := h.shp = [] ∧ h.kind = 3
def plainN (h : Nd) : Prop := h.shp = [] ∧ h.kind ≠ 3 ∧ h.kind ≠ 5
instance (h : Nd) : Decidable (plainS h) := inferInstanceAs (Decidable (_ ∧ _))
instance (h : Nd) : Decidable (plainN h) := inferInstanceAs (Decidable (_ ∧ _ ∧ _))
def sgs (h : Nd) : List Int := if plainS h then h.ints else []
def nbs (h : Nd) : List (Int × Int) := if plainN h then valsR h else []
def sgK : List (List Nd) → List Int
  | [] => []
  | f :: fs => sgs (f.getD 0 nd0) ++ sgK fs
def nbK : List (List Nd) → List (Int × Int)
  | [] => []
  | f :: fs => nbs (f.getD 0 nd0) ++ nbK fs
def docK (n : Nd) (fs : List (List Nd)) : List Nd :=
  if (sgK fs).length = fs.length then [⟨3, n.shp, sgK fs, []⟩] else if (nbK fs).length = fs.length then [leastN n.shp (nbK fs)] else n :: flatK fs

theorem right_head {f : List Nd} (hr : rightA f = true) (hf : Fine f) : ∃ h t, f = h :: t ∧ okB h = true ∧ Fit h ∧ (∀ x ∈ h.ints, In x) ∧ (h.kind ≠ 5 → t = []) := by
  obtain ⟨n, l', ks, rfl, hok, _, _, hk⟩ := right_form hr hf
  obtain ⟨h1, h2, _⟩ := hf.cons
  exact ⟨n, l', rfl, hok, h1, h2, fun h => (hk h).1⟩
def Alr2 (fs : List (List Nd)) : Prop := ∀ f ∈ fs, rightA f = true ∧ Fine f
theorem sg_cases : ∀ {fs : List (List Nd)}, Alr2 fs → (sgK fs).length ≤ fs.length ∧ ((sgK fs).length = fs.length → (∀ x ∈ flatK fs, plainS x) ∧ sgK fs = intsK (flatK fs) ∧ (flatK fs).length = fs.length) ∧ ((∀ x ∈ flatK fs, plainS x) → (sgK fs).length = fs.length)
  | [], _ => ⟨Nat.le_refl _, fun _ => ⟨fun x hx => (by cases hx), rfl, rfl⟩, fun _ => rfl⟩
  | f :: fs, h => by
    obtain ⟨i1, i2, i3⟩ := sg_cases (fs := fs) fun q hq => h q (by simp [hq])
    obtain ⟨hr, hf⟩ := h f (by simp)
    obtain ⟨n, t, rfl, hok, hfit, hin, ht⟩ := right_head hr hf
    have e : sgK ((n :: t) :: fs) = sgs n ++ sgK fs := rfl
    by_cases hp : plainS n
    · have ht' := ht (by rw [hp.2]; decide)
      subst ht'
      have hl := (ints_one hok hp.1 hp.2).1
      have e2 : sgs n = n.ints := if_pos hp
      rw [e, e2]
      refine ⟨by simp only [List.length_append, List.length_cons]; omega, fun hq => ?_, fun hq => ?_⟩
      · obtain ⟨j1, j2, j3⟩ := i2 (by simp only [List.length_append, List.length_cons] at hq; omega)
        refine ⟨fun x hx => ?_, by rw [j2]; rfl, by simp only [flatK, List.length_append, List.length_cons, List.length_nil]; omega⟩
        rcases List.mem_append.1 hx with hx | hx
        · rw [List.mem_singleton.1 hx]; exact hp
        · exact j1 x hx
      · have := i3 fun x hx => hq x (List.mem_append.2 (.inr hx))
        simp only [List.length_append, List.length_cons]; omega
    · have e2 : sgs n = [] := if_neg hp
      rw [e, e2, List.nil_append]
      refine ⟨by simp only [List.length_cons]; omega, fun hq => ?_, fun hq => absurd (hq n (List.mem_append.2 (.inl (by simp)))) hp⟩
      simp only [List.length_cons] at hq
      omega
theorem nb_cases : ∀ {fs : List (List Nd)}, Alr2 fs → (nbK fs).length ≤ fs.length ∧ ((nbK fs).length = fs.length → (∀ x ∈ flatK fs, plainN x) ∧ nbK fs = valsK (flatK fs) ∧ (flatK fs).length = fs.length) ∧ ((∀ x ∈ flatK fs, plainN x) → (nbK fs).length = fs.length)
  | [], _ => ⟨Nat.le_refl _, fun _ => ⟨fun x hx => (by cases hx), rfl, rfl⟩, fun _ => rfl⟩
  | f :: fs, h => by
    obtain ⟨i1, i2, i3⟩ := nb_cases (fs := fs) fun q hq => h q (by simp [hq])
    obtain ⟨hr, hf⟩ := h f (by simp)
    obtain ⟨n, t, rfl, hok, hfit, hin, ht⟩ := right_head hr hf
    have e : nbK ((n :: t) :: fs) = nbs n ++ nbK fs := rfl
    by_cases hp : plainN n
    · have ht' := ht hp.2.2
      subst ht'
      have hv := valsR_ok hok hp.2.1
      have hl : (valsN n).length = 1 := by
        have := (vals_ok hok hp.2.1 hfit hin).2.2.2 hp.2.2
        rw [hp.1, show cnt [] = 1 by decide] at this
        exact this.symm
      have e2 : nbs n = valsN n := by rw [← hv]; exact if_pos hp
      rw [e, e2]
      refine ⟨by simp only [List.length_append, List.length_cons]; omega, fun hq => ?_, fun hq => ?_⟩
      · obtain ⟨j1, j2, j3⟩ := i2 (by simp only [List.length_append, List.length_cons] at hq; omega)
        refine ⟨fun x hx => ?_, by rw [j2]; rfl, by simp only [flatK, List.length_append, List.length_cons, List.length_nil]; omega⟩
        rcases List.mem_append.1 hx with hx | hx
        · rw [List.mem_singleton.1 hx]; exact hp
        · exact j1 x hx
      · have := i3 fun x hx => hq x (List.mem_append.2 (.inr hx))
        simp only [List.length_append, List.length_cons]; omega
    · have e2 : nbs n = [] := if_neg hp
      rw [e, e2, List.nil_append]
      refine ⟨by simp only [List.length_cons]; omega, fun hq => ?_, fun hq => absurd (hq n (List.mem_append.2 (.inl (by simp)))) hp⟩
      simp only [List.length_cons] at hq
      omega
theorem docK_is {n : Nd} {fs : List (List Nd)} (hk : n.kind = 5) (hne : fs ≠ []) (hf : Alr2 fs) : docK n fs = clos n (flatK fs) := by
  obtain ⟨a1, a2, a3⟩ := sg_cases hf
  obtain ⟨b1, b2, b3⟩ := nb_cases hf
  have hpos : 0 < fs.length := List.length_pos_iff.2 hne
  have e : foldO n (flatK fs) = joinO n.shp (flatK fs) := by unfold foldO; rw [if_neg (by rw [hk]; decide), if_pos hk]
  unfold docK clos
  rw [e]
  generalize hK : flatK fs = K at *
  by_cases h1 : (sgK fs).length = fs.length
  · obtain ⟨p, q, r⟩ := a2 h1
    obtain ⟨x, K', rfl⟩ : ∃ x K', K = x :: K' := by
      cases K with
      | nil => simp at r; omega
      | cons x K' => exact ⟨x, K', rfl⟩
    have hd : (x :: K').any deepB = false := by
      rw [List.any_eq_false]; intro y hy; obtain ⟨u, v⟩ := p y hy; simp [deepB, u, v]
    have hn : (x :: K').any numN = false := by
      rw [List.any_eq_false]; intro y hy; obtain ⟨u, v⟩ := p y hy; simp [numN, signN, v]
    have hs : (x :: K').any signN = true := by
      rw [List.any_eq_true]; exact ⟨x, by simp, by have := (p x (by simp)).2; simp [signN, this]⟩
    rw [if_pos h1, q]
    simp [joinO, hd, hn, hs]
  · rw [if_neg h1]
    by_cases h2 : (nbK fs).length = fs.length
    · obtain ⟨p, q, r⟩ := b2 h2
      have hd : K.any deepB = false := by
        rw [List.any_eq_false]; intro y hy; obtain ⟨u, _, v⟩ := p y hy; simp [deepB, u, v]
      have hs : K.any signN = false := by
        rw [List.any_eq_false]; intro y hy; obtain ⟨_, u, v⟩ := p y hy; simp [signN, u]
      rw [if_pos h2, q]
      simp [joinO, hd, hs]
    · rw [if_neg h2]
      have h3 : ¬ ∀ x ∈ K, plainS x := fun h => h1 (a3 h)
      have h4 : ¬ ∀ x ∈ K, plainN x := fun h => h2 (b3 h)
      have hj : joinO n.shp K = none := by
        unfold joinO
        rw [if_pos]
        cases hd : K.any deepB with
        | true => rfl
        | false =>
          have hdd : ∀ x ∈ K, x.kind ≠ 5 ∧ x.shp = [] := fun x hx => not_deep (by have := List.any_eq_false.1 hd x hx; simpa using this)
          simp only [Bool.false_or, Bool.and_eq_true, List.any_eq_true]
          simp only [Classical.not_forall] at h3 h4
          obtain ⟨x, hx, hx3⟩ := h3
          obtain ⟨y, hy, hy4⟩ := h4
          refine ⟨⟨y, hy, ?_⟩, ⟨x, hx, ?_⟩⟩
          · have : y.kind = 3 := Classical.byContradiction fun h => hy4 ⟨(hdd y hy).2, h, (hdd y hy).1⟩
            simp [signN, this]
          · have : x.kind ≠ 3 := fun h => hx3 ⟨(hdd x hx).2, h⟩
            simp [numN, signN, this]
      rw [hj]
end Go.Proofs.YteoogioanjkacaaGreatDoor
namespace Go.Proofs.YteoogioanjkacaaGreatDoor
set_option maxRecDepth 20000
set_option linter.unusedVariables false
set_option linter.unusedSimpArgs false
theorem isum_mem : ∀ {ks : List (List Nd)} {k : List Nd}, k ∈ ks → (ws k).d ≤ dmax ks
  | q :: ks, k, h => by
    rcases List.mem_cons.1 h with rfl | h
    · simp only [dmax]; omega
    · have := isum_mem h
      simp only [dmax]; omega
theorem fine_mem : ∀ {ks : List (List Nd)}, Fine (flatK ks) → ∀ k ∈ ks, Fine k
  | [], _, k, hk => by cases hk
  | q :: ks, h, k, hk => by
    have h1 : Fine q := by
      have := h.take q.length
      rwa [show flatK (q :: ks) = q ++ flatK ks from rfl, List.take_left] at this
    have h2 : Fine (flatK ks) := by
      have := h.drop q.length
      rwa [show flatK (q :: ks) = q ++ flatK ks from rfl, List.drop_left] at this
    rcases List.mem_cons.1 hk with rfl | hk
    · exact h1
    · exact fine_mem h2 k hk
theorem form_nest {xs : List Nd} (hr : rightA xs = true) (hf : Fine xs) (h5 : (xs.getD 0 nd0).kind = 5) :
    (∀ k ∈ kidsA xs, rightA k = true ∧ Fine k ∧ (ws k).d + 1 ≤ (ws xs).d) ∧ Alr2 ((kidsA xs).map formA) ∧ (flatK (kidsA xs)).length + 1 = xs.length ∧ (flatK ((kidsA xs).map formA)).length ≤ (flatK (kidsA xs)).length ∧
    nest5 (xs.getD 0 nd0).shp = xs.getD 0 nd0 ∧ (kidsA xs).length = cnt (xs.getD 0 nd0).shp ∧ rightB (xs.getD 0 nd0).shp = true ∧
    (kidsA xs ≠ [] → formA xs = docK (nest5 (xs.getD 0 nd0).shp) ((kidsA xs).map formA)) := by
  obtain ⟨q1, q2, q3, q4, q5, q6⟩ := kids_nest hr h5
  obtain ⟨k1, k2, k3⟩ := nest_form q6
  have hok := (nest_facts q6).1
  generalize kidsA xs = ks at *
  have hn : xs.getD 0 nd0 = nest5 (xs.getD 0 nd0).shp := congrArg (fun l => List.getD l 0 nd0) q5.symm
  generalize (xs.getD 0 nd0).shp = sh at *
  have hfk : Fine (flatK ks) := by
    have := hf.drop 1
    rw [← q5] at this
    exact this
  have hfm := fine_mem hfk
  have hal : Alr2 (ks.map formA) := fun f hm => by
    obtain ⟨k, hk, rfl⟩ := List.mem_map.1 hm
    obtain ⟨j1, _, _, _, j5, _⟩ := form_right (q2 k hk) (hfm k hk)
    exact ⟨j1, j5⟩
  refine ⟨fun k hk => ⟨q2 k hk, hfm k hk, by rw [q4]; have := isum_mem hk; omega⟩, hal, by rw [← q5]; simp, ?_, hn.symm, q1, (ok_right hok).1, fun hne => ?_⟩
  · have : ∀ ks : List (List Nd), (∀ k ∈ ks, rightA k = true ∧ Fine k) → (flatK (ks.map formA)).length ≤ (flatK ks).length := fun ks h => by
      induction ks with
      | nil => exact Nat.le_refl _
      | cons k ks ih =>
        obtain ⟨h1, h2⟩ := h k (by simp)
        have := ih fun q hq => h q (by simp [hq])
        obtain ⟨_, j2, _⟩ := form_right h1 h2
        simp only [List.map_cons, flatK, List.length_append]
        omega
    exact this ks fun k hk => ⟨q2 k hk, hfm k hk⟩
  · rw [docK_is rfl (by simpa using hne) hal, ← k2, q5]
end Go.Proofs.YteoogioanjkacaaGreatDoor
namespace Go.Proofs.YteoogioanjkacaaGreatDoor
set_option maxRecDepth 20000
open Go.RowKit Go.Lib
set_option linter.unusedSimpArgs false
set_option linter.unusedVariables false
theorem kidsT_le (ks : List (List Nd)) (j : Nat) : (kidsT (ks.take j)).length ≤ (kidsT ks).length := by
  have h : kidsT ks = kidsT (ks.take j) ++ kidsT (ks.drop j) := by rw [← kidsT_app, List.take_append_drop]
  rw [h, List.length_append]; omega
theorem nest_head {n : Nd} (h5 : n.kind = 5) : headT n = if n.shp = [] then [226, 138, 130] else Num.intsT n.shp ++ [226, 141, 180] := by
  unfold headT
  rw [if_pos h5]
  rfl

set_option maxHeartbeats 12800000 in
theorem lnests_walk (A : Option Addr) (n c : Nat) (xs : List Nd) (w : World) (hx : IsNodes w A n c xs) (hL : LaidN w) :
    Calls Tryz.prog 6 #[.slice A n c] w (Says true w) := by
  have HX := Lib.hid hx
  have HL := Lib.hid hL
  clear hx hL
  go_enter Tryz.func6, Tryz.ntmps6
  go_wp2_with fail
  refine (small_any _ HL.out).mono ?_
  rintro e w1 ⟨rfl, hg1⟩
  have HG1 := Lib.hid hg1
  clear hg1
  go_wp2_with fail
  refine (few_any A n c xs w _ HX.out HG1.out).mono ?_
  rintro e w2 ⟨rfl, hg2⟩
  have HG2 := Lib.hid (HG1.out.trans hg2)
  clear hg2 HG1
  cases hfx : fewB xs with
  | false =>
    go_wp2
    go_ret
    exact ⟨rfl, HG2.out⟩
  | true =>
    obtain ⟨hfine, hslim, hn100⟩ := few_fine HX.out hfx
    have HN := Lib.hid HX.out.1
    have hnc : n ≤ c := HX.out.2.1
    have HNA := Lib.hid (HX.out.2.2.2.1.grow HG2.out)
    have HTR := Lib.hid (tright_any A n c xs w2 HN.out hnc hfine (ws_few xs) HNA.out)
    by_cases ht : rightA xs = true ∧ formA xs = xs
    case neg =>
      rw [tight_no ht] at HTR
      clear HX hfx hfine hslim ht HNA
      go_wp2_with fail
      refine (HTR.out).mono ?_
      rintro e w3 ⟨rfl, hg3⟩
      have HG3 := Lib.hid (HG2.out.trans hg3)
      clear hg3 HTR
      go_wp2
      go_ret
      exact ⟨rfl, HG3.out⟩
    rw [tight_yes ht] at HTR
    have hpos : 0 < n := by
      rw [← HN.out]
      obtain ⟨s, hs⟩ := right_some ht.1
      obtain ⟨m, l', t, rfl, _⟩ := right_parts hs
      simp
    have hposi : (0 : Int) < ((n : Nat) : Int) := by omega
    obtain ⟨b0, off, hA, hb0, hat⟩ := HNA.out (by rw [HN.out]; exact hpos)
    subst hA
    have HAT := Lib.hid (hat 0 (by rw [HN.out]; exact hpos))
    rw [Nat.zero_mul, Nat.add_zero] at HAT
    clear hat
    obtain ⟨nd, hnd⟩ : ∃ nd, xs.getD 0 nd0 = nd := ⟨_, rfl⟩
    rw [hnd] at HAT
    by_cases h5 : nd.kind = 5
    case neg =>
      have h5b : (nd.kind != 5) = true := by rw [bne_iff_ne]; exact h5
      obtain ⟨A1, c1, A2, c2, A3, c3, p0, _⟩ := HAT.out
      clear HX hfx hfine hslim ht hnd
      go_wp2_with fail
      refine (HTR.out).mono ?_
      rintro e w3 ⟨rfl, hg3⟩
      have HG3 := Lib.hid (HG2.out.trans hg3)
      have p0' : w3.cell? ⟨b0, off, none⟩ = some (.int .i64 nd.kind) := (hg3.cell (p := ⟨b0, off, none⟩) hb0).trans p0
      clear hg3 HTR p0 HAT HNA
      go_wp2
      go_ret
      exact ⟨rfl, HG3.out⟩
    have h5b : (nd.kind != 5) = false := by rw [h5]; rfl
    have HKD := Lib.hid (fun W (h : Nodes W W.heap.size (some ⟨b0, off, none⟩) xs) => kids_any (some ⟨b0, off, none⟩) n c xs W HN.out (by omega) hnc hfine.2.1 h)
    have hk5 : (xs.getD 0 nd0).kind = 5 := by rw [hnd]; exact h5
    have HNN : Hid (noteA xs = headT nd ++ kidsT (kidsA xs)) := Lib.hid (by rw [← hnd]; exact note_nest ht.1 hk5)
    have HKT := Lib.hid (kids_tight ht.1 hfine ht.2 hk5)
    have HKF : Hid (∀ k ∈ kidsA xs, Fine k ∧ Slim k) := Lib.hid (fun k hk => by
      refine ⟨((form_nest ht.1 hfine hk5).1 k hk).2.1, fun m hm => ?_⟩
      have h2 := (kids_nest ht.1 hk5).2.2.2.2.1
      refine hslim m ?_
      rw [← h2]
      refine List.mem_cons_of_mem _ ?_
      clear h2
      generalize kidsA xs = ks at hk
      induction ks with
      | nil => cases hk
      | cons q ks ih =>
        rcases List.mem_cons.1 hk with rfl | hk
        · exact List.mem_append_left _ hm
        · exact List.mem_append_right _ (ih hk))
    have htl := few_text hfx hfine ht.1 ht.2
    rw [HNN.out, List.length_append] at htl
    have hnt : noteT xs = headT nd ++ kidsT (kidsA xs) := by unfold noteT; rw [if_pos ht]; exact HNN.out
    have HTX := Lib.hid (fun W h hL => ptext_any (some ⟨b0, off, none⟩) n c xs W HN.out hnc hfine hslim h hL)
    rw [hnt] at HTX
    have hrs : rightB nd.shp = true := by
      have := (form_nest ht.1 hfine hk5).2.2.2.2.2.2.1
      rw [hnd] at this
      exact this
    have hs16 := (right_iff.1 hrs).1
    have HSI := Lib.hid (shp_in hrs)
    have HHD := Lib.hid (nest_head h5)
    have HKB : Hid ((kidsA xs).length ≤ 1048576) := Lib.hid (by rw [(kids_nest ht.1 hk5).1]; exact cnt_le1 _)
    obtain ⟨ks, hks⟩ : ∃ ks, kidsA xs = ks := ⟨_, rfl⟩
    rw [hks] at HKD HKT HKF htl HTX HKB
    clear HX hfx hfine hslim ht hnd h5 hk5 hnt HNN hks hrs
    obtain ⟨A1, c1, A2, c2, A3, c3, p0, p1, _, _, m1, _⟩ := HAT.out
    obtain ⟨l1, hl1⟩ : ∃ l1, nd.shp.length = l1 := ⟨_, rfl⟩
    have HL1 := Lib.hid hl1
    rw [hl1] at p1 hs16
    have HSN := Lib.hid m1
    clear hl1 m1
    generalize nd.kind = kd at *
    go_wp2_with fail
    refine (HTR.out).mono ?_
    rintro e w3 ⟨rfl, hg3⟩
    have HG3 := Lib.hid (HG2.out.trans hg3)
    have HNA3 := Lib.hid (HNA.out.grow hg3)
    have HSN3 := Lib.hid (HSN.out.grow hg3)
    have p0' : w3.cell? ⟨b0, off, none⟩ = some (.int .i64 kd) := (hg3.cell (p := ⟨b0, off, none⟩) hb0).trans p0
    have p1' : w3.cell? ⟨b0, off + 1, none⟩ = some (.slice A1 l1 c1) := (hg3.cell (p := ⟨b0, off + 1, none⟩) hb0).trans p1
    have hb3 : b0 < w3.heap.size := Nat.lt_of_lt_of_le hb0 hg3.size
    clear hg3 HTR HAT HNA p0 p1 HSN hb0
    go_wp2_with fail
    refine (HKD.out _ HNA3.out).mono ?_
    rintro e w4 ⟨AK, cK, rfl, _, hck, hka, hg4⟩
    have HG4 := Lib.hid (HG3.out.trans hg4)
    have HNA4 := Lib.hid (HNA3.out.grow hg4)
    have HSN4 := Lib.hid (HSN3.out.grow hg4)
    have HKA := Lib.hid hka
    have q1 : w4.cell? ⟨b0, off + 1, none⟩ = some (.slice A1 l1 c1) := (hg4.cell (p := ⟨b0, off + 1, none⟩) hb3).trans p1'
    clear hg4 HKD HNA3 HSN3 p0' p1' hka
    obtain ⟨κ, hκ⟩ : ∃ κ, ks.length = κ := ⟨_, rfl⟩
    have HKL := Lib.hid hκ
    simp only [hκ]
    clear hκ
    go_upto_if 33 with fail
    go_cut [6] from 33 to 39 (fun s6 wx => s6 = .string ⟨(headT nd).toArray⟩ ∧ Hid (Grow w4 wx))
    case first =>
      by_cases h0 : nd.shp = []
      · have hl0 : l1 = 0 := by rw [← HL1.out, h0]; rfl
        have HF : Hid (headT nd = [226, 138, 130]) := Lib.hid (by rw [HHD.out, if_pos h0])
        subst hl0
        clear h0
        go_wp2
        go_meet
        exact ⟨by rw [HF.out], Lib.hid (Grow.refl _)⟩
      · have hl0 : (0 : Int) < ((l1 : Nat) : Int) := by
          have : 0 < nd.shp.length := List.length_pos_iff.2 h0
          rw [HL1.out] at this
          omega
        have HF : Hid (headT nd = Num.intsT nd.shp ++ [226, 141, 180]) := Lib.hid (by rw [HHD.out, if_neg h0])
        have HI := Lib.hid (Num.ints_any A1 l1 c1 nd.shp w4 HL1.out (by omega) HSN4.out HSI.out (HL.out.grow HG4.out).1.pows)
        have hap := Quo.str_app (Num.intsT nd.shp) [226, 141, 180]
        have hlen : ¬ 140737488355327 < (Num.intsT nd.shp).length + 3 := by
          have := Num.ints_len HSI.out
          have := HL1.out
          omega
        clear h0
        go_wp2_with fail
        refine (HI.out).mono ?_
        rintro e w5 ⟨rfl, hg5⟩
        have HG5 := Lib.hid hg5
        clear hg5 HI
        go_wp2
        go_meet
        exact ⟨by rw [HF.out], HG5⟩
    case rest =>
      obtain ⟨rfl, hgc⟩ := hcut
      have HGC := Lib.hid (HG4.out.trans hgc.out)
      have HNAC := Lib.hid (HNA4.out.grow hgc.out)
      have HKAC := Lib.hid (HKA.out.grow hgc.out)
      obtain ⟨hd, hhd⟩ : ∃ hd, headT nd = hd := ⟨_, rfl⟩
      simp only [hhd] at htl HTX ⊢
      clear hgc HG4 HNA4 HKA q1 HSN4 HHD hhd
      go_wp2
      go_loopg [6, 7] κ (fun gk s6 s7 wr => ∃ j : Nat, j ≤ κ ∧ gk = κ - j ∧ s7 = .int .i64 j ∧ s6 = .string ⟨(hd ++ kidsT (ks.take j)).toArray⟩ ∧ Hid (Grow wc wr))
      case atStart => exact ⟨0, Nat.zero_le _, rfl, rfl, by simp [kidsT], Lib.hid (Grow.refl _)⟩
      case round =>
        obtain ⟨j, hj, rfl, rfl, rfl, HGR⟩ := hrel
        have HGW := Lib.hid (HGC.out.trans HGR.out)
        have hκb : κ ≤ 1048576 := by rw [← HKL.out]; exact HKB.out
        by_cases hjk : j < κ
        · have hji : ((j : Nat) : Int) < ((κ : Nat) : Int) := by omega
          have hjl : j < ks.length := by rw [HKL.out]; exact hjk
          have hmem : ks.getD j [] ∈ ks := by rw [show ks.getD j [] = ks[j] by simp [List.getD, hjl]]; exact List.getElem_mem hjl
          obtain ⟨bk, ok, hAK, hbk, hkc⟩ := (HKAC.out.grow HGR.out) (by omega)
          subst hAK
          obtain ⟨A', c', r1, r2, r3⟩ := hkc j hjl
          have HST := Lib.hid (kidsT_step hjl)
          have hle := kidsT_le ks (j + 1)
          rw [HST.out] at hle
          simp only [List.length_append, List.length_cons, List.length_nil] at hle
          obtain ⟨k, hk⟩ : ∃ k, ks.getD j [] = k := ⟨_, rfl⟩
          rw [hk] at r1 r2 r3 hmem HST hle
          have hnk : noteT k = noteA k := by unfold noteT; rw [if_pos (HKT.out k hmem)]
          obtain ⟨m, hm⟩ : ∃ m, k.length = m := ⟨_, rfl⟩
          rw [hm] at r1 r2
          have HKX := Lib.hid (ptext_any A' m c' k wr hm r2 (HKF.out k hmem).1 (HKF.out k hmem).2 r3 (HL.out.grow HGW.out))
          rw [hnk] at HKX
          obtain ⟨P, hP⟩ : ∃ P, hd ++ kidsT (ks.take j) = P := ⟨_, rfl⟩
          have hPl : P.length = hd.length + (kidsT (ks.take j)).length := by rw [← hP, List.length_append]
          have HE : Hid (hd ++ kidsT (ks.take (j + 1)) = P ++ [40] ++ noteA k ++ [41]) := Lib.hid (by rw [HST.out, ← List.append_assoc, hP]; simp)
          rw [hP]
          have e1 := Quo.str_app P [40]
          have e2 := Quo.str_app (P ++ [40]) (noteA k)
          have e3 := Quo.str_app (P ++ [40] ++ noteA k) [41]
          have z1 : ¬ 140737488355327 < P.length + 1 := by omega
          have z2 : ¬ 140737488355327 < P.length + 1 + (noteA k).length := by omega
          have z3 : ¬ 140737488355327 < P.length + 1 + (noteA k).length + 1 := by omega
          clear hP hPl hk hmem hle hnk hkc r2 r3 hm HST
          generalize noteA k = T at *
          go_wp2_with fail
          refine (HKX.out).mono ?_
          rintro e w6 ⟨rfl, hg6⟩
          have HG6 := Lib.hid (HGR.out.trans hg6)
          clear hg6 HKX
          go_wp2
          go_roundg (κ - (j + 1))
          case rel => exact ⟨j + 1, hjk, rfl, by first | rfl | go_num, by rw [HE.out]; exact congrArg Value.string ((Quo.str_app (P ++ 40 :: T) [41]).trans (by simp)), HG6⟩
          case measure => omega
        · obtain rfl : j = κ := by omega
          have HTW := Lib.hid (HTX.out wr (HNAC.out.grow HGR.out) (HL.out.grow HGW.out))
          have hfull : ks.take j = ks := List.take_of_length_le (by rw [HKL.out]; exact Nat.le_refl _)
          rw [hfull]
          obtain ⟨F, hF⟩ : ∃ F, hd ++ kidsT ks = F := ⟨_, rfl⟩
          rw [hF] at HTW ⊢
          have hst := text_eq (S := ⟨F.toArray⟩) rfl (rfl : F = F)
          clear hfull hF HTX
          go_wp2_with fail
          refine (HTW.out).mono ?_
          rintro e w6 ⟨rfl, hg6⟩
          have HG6 := Lib.hid (HGW.out.trans hg6)
          clear hg6 HTW
          go_wp2
          go_ret
          exact ⟨rfl, HG6.out⟩
end Go.Proofs.YteoogioanjkacaaGreatDoor
