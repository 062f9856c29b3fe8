/-
  What array.Kids comes to, called with any nodes.
-/
import Derived.Test.YtfdlngcaopcaoaaCuts
import Derived.Test.YtfdlngcaopcaoaaKidsM
import Derived.Test.YtfdlngcaopcaoaaFirsts
namespace Go.Proofs.Ytfdlngcaopcaoaa
open Go.RowKit Go.Lib
set_option linter.unusedSimpArgs false
set_option linter.unusedVariables false

/-- the answer holds the rows ks, and nothing that was there has turned -/
def KidsP (ks : List (List Nd)) (w : World) (e : Ending) (w' : World) : Prop :=
  ∃ A c, e = .returned (.slice A ks.length c) ∧ (A = none → c = 0) ∧ ks.length ≤ c ∧ KidsAt w' w'.heap.size A ks ∧ Grow w w'

set_option maxRecDepth 10000 in
set_option maxHeartbeats 3200000 in
theorem kids_any (A : Option Addr) (n c : Nat) (ns : List Nd) (w : World) (hn : ns.length = n) (hnb : n ≤ 1000000) (hnc : n ≤ c) (hf : Fits ns) (hns : Nodes w w.heap.size A ns) :
    Calls Try.prog 10 #[.slice A n c] w (KidsP (kidsA ns) w) := by
  have HR := Lib.hid (aright_any A n c ns w hn hnb hf hns)
  have HN := Lib.hid hn
  have HF := Lib.hid hf
  have HNS := Lib.hid hns
  clear hn hf hns
  cases hr : rightA ns with
  | false =>
    have HK : Hid (kidsA ns = []) := Lib.hid (by unfold kidsA; rw [hr]; rfl)
    rw [hr] at HR
    clear hr
    go_enter Try.func10, Try.ntmps10
    go_wp2_with fail
    refine (HR.out).mono ?_
    rintro e w1 ⟨rfl, hg1⟩
    go_wp2
    go_ret
    exact ⟨none, 0, by rw [HK.out]; rfl, fun _ => rfl, by rw [HK.out]; exact Nat.le_refl _, by rw [HK.out]; exact KidsAt.none_, hg1⟩
  | true =>
    obtain ⟨hne, hky⟩ := right_kidsy hr
    have hpos : 1 ≤ n := by rw [← HN.out]; exact List.length_pos_iff.2 hne
    have HK : Hid (kidsA ns = kd (ns.drop 1)) := Lib.hid (by unfold kidsA; rw [hr]; rfl)
    rw [hr] at HR
    have HKY := Lib.hid hky
    clear hr hne hky
    have hc1 : ∀ W : World, (Instr.slice 22 (.slice A n c) (some (.int .i64 1)) none none).run Try.prog W = .ok (.slice (cutA A c 1) (n - 1) (c - 1)) W := fun W => run_cut_lo A n c 1 hpos W
    obtain ⟨A1, hA1⟩ : ∃ A1, cutA A c 1 = A1 := ⟨_, rfl⟩
    rw [hA1] at hc1
    have HN1 := Lib.hid (show Nodes w w.heap.size A1 (ns.drop 1) by rw [← hA1]; exact HNS.out.cut c 1 (by rw [HN.out]; exact hnc))
    clear hA1
    go_enter Try.func10, Try.ntmps10
    go_wp2_with fail
    refine (HR.out).mono ?_
    rintro e w1 ⟨rfl, hg1⟩
    have HG1 := Lib.hid hg1
    clear hg1 HR
    go_wp2
    clear hc1
    go_loopg [3, 4] (n - 1) (fun gk s3 s4 wr => ∃ (v : Value) (dn : List (List Nd)) (l : List Nd) (AL : Option Addr) (nl cl : Nat), v = s3 ∧ s4 = .slice AL nl cl ∧ nl = gk ∧ nl ≤ n ∧ nl ≤ cl ∧ Hid (l.length = nl) ∧ Hid (dn.length + nl ≤ n) ∧ Hid (Kidsy l) ∧ Hid (Fits l) ∧
      Hid (kd (ns.drop 1) = dn ++ kd l) ∧ Hid (Nodes w w.heap.size AL l) ∧ Hid (OwnK w.heap.size v dn wr) ∧ Hid (Grow w wr))
    case atStart =>
      refine ⟨_, [], ns.drop 1, A1, n - 1, c - 1, rfl, rfl, rfl, by omega, by omega, Lib.hid (by rw [List.length_drop, HN.out]), Lib.hid (by simp), HKY, Lib.hid (HF.out.drop 1), Lib.hid rfl, HN1, Lib.hid (ownK_nil _ _), HG1⟩
    case round =>
      obtain ⟨v, dn, l, AL, nl, cl, rfl, rfl, rfl, hnl, hcl, HL, HDN, HKL, HFL, HKE, HNL, HO, HGR⟩ := hrel
      by_cases h0 : nl = 0
      · subst h0
        have HE : Hid (kd (ns.drop 1) = dn) := Lib.hid (by rw [HKE.out, List.eq_nil_of_length_eq_zero HL.out, kd_nil, List.append_nil])
        go_wp2
        go_ret
        obtain ⟨A', c', hv, h1, h2, h3⟩ := HO.out.kids
        exact ⟨A', c', by rw [HK.out, HE.out, ← hv]; rfl, h1, by rw [HK.out, HE.out]; exact h2, by rw [HK.out, HE.out]; exact h3, HGR.out⟩
      · have hln : l ≠ [] := fun e => h0 (by rw [← HL.out, e]; rfl)
        have hpi : (0 : Int) < ((nl : Nat) : Int) := by omega
        obtain ⟨s, hp15, hfs, hta, hs1, hsl, hky⟩ := HKL.out.step hln
        rw [HL.out] at hsl
        have HT := Lib.hid (take_any AL nl cl l wr HL.out (by omega) HFL.out (HNL.out.grow HGR.out))
        rw [fs_some hfs] at HT
        have HKS := Lib.hid (kd_step hln (by rw [hta]; omega))
        rw [hta] at HKS
        have HKD := Lib.hid hky
        obtain ⟨z, hz⟩ : ∃ z, s.n = z := ⟨_, rfl⟩
        rw [hz] at HT HKS HKD hs1 hsl
        have hc1 := run_cut_hi AL nl cl z (by omega)
        have hc2 := run_cut_lo AL nl cl z hsl
        obtain ⟨A2, hA2⟩ : ∃ A2, cutA AL cl z = A2 := ⟨_, rfl⟩
        rw [hA2] at hc2
        have HN2 := Lib.hid (show Nodes w w.heap.size A2 (l.drop z) by rw [← hA2]; exact HNL.out.cut cl z (by rw [HL.out]; exact hcl))
        have HTL : Hid ((l.take z).length = z) := Lib.hid (by rw [List.length_take, HL.out]; omega)
        have HC := Lib.hid (fun W h => copy_any AL z cl (l.take z) W HTL.out (by omega) (HFL.out.take z) h)
        clear hA2 hky hp15 hfs hta hz hln
        go_wp2_with fail
        refine (HT.out).mono ?_
        rintro e w2 ⟨rfl, hg2⟩
        have HG2 := Lib.hid (HGR.out.trans hg2)
        have HO2 := Lib.hid (HO.out.grow hg2)
        clear hg2 HT HO
        go_wp2_with fail
        refine (HC.out _ ((HNL.out.take z).grow HG2.out)).mono ?_
        rintro e w3 ⟨rfl, hcp, hg3⟩
        have HG3 := Lib.hid (HG2.out.trans hg3)
        have HO3 := Lib.hid (HO2.out.grow hg3)
        have HCP := Lib.hid hcp
        have HZ3 := Lib.hid (HG2.out.size)
        have HOL := Lib.hid (show ∀ k, v.ownBlock = some k → k < w2.heap.size by obtain ⟨vals, ho, _⟩ := HO2.out; exact fun k hk => (ho.lt k hk).2)
        clear hg3 hcp HC HO2
        have HG4 := Lib.hid (grow_new w3 (.cells #[.slice (some ⟨w2.heap.size, 0, none⟩) z z] 22))
        have HO4 := Lib.hid (HO3.out.grow HG4.out)
        have HCELL : Hid ((w3.alloc (.cells #[.slice (some ⟨w2.heap.size, 0, none⟩) z z] 22)).cell? ⟨w3.heap.size, 0, none⟩ = some (.slice (some ⟨w2.heap.size, 0, none⟩) (l.take z).length z)) := Lib.hid (by rw [HTL.out, World.cell?_alloc_new]; rfl)
        have HKID := Lib.hid (((HCP.out.grow HG4.out).nodesT).keep (T' := fun b => w.heap.size ≤ b ∧ v.ownBlock ≠ some b ∧ b < (w3.alloc (.cells #[.slice (some ⟨w2.heap.size, 0, none⟩) z z] 22)).heap.size) (fun b hb => ⟨⟨Nat.le_trans HZ3.out hb.1, fun e => by have := HOL.out b e; omega, hb.2⟩, rfl⟩))
        have HB4 := Lib.hid (Nat.le_trans HG3.out.size HG4.out.size)
        have hdn : dn.length ≤ 1000000 := by have := HDN.out; omega
        have HGA := Lib.hid (HG3.out.trans HG4.out)
        go_wp2_with (at_builtin; refine wpList_append_kid rfl _ _ rfl w.heap.size v dn (l.take z) w3.heap.size (some ⟨w2.heap.size, 0, none⟩) z rfl HO4.out rfl HCELL.out (by rw [HTL.out]; exact Nat.le_refl _) HKID.out hdn HB4.out ?_; intro v' w5 HO5 HB5)
        go_roundg (nl - z)
        case rel =>
          refine ⟨v', dn ++ [l.take z], l.drop z, A2, nl - z, cl - z, rfl, rfl, rfl, by omega, by omega, Lib.hid (by rw [List.length_drop, HL.out]), Lib.hid (by have := HDN.out; rw [List.length_append]; simp only [List.length_singleton]; omega), HKD, Lib.hid (HFL.out.drop z), Lib.hid (by rw [HKE.out, HKS.out]; simp), HN2, HO5, Lib.hid (Below.trans HGA.out HB5.out)⟩
        case measure => omega
end Go.Proofs.Ytfdlngcaopcaoaa
