/-
  What the document's own Kids comes to, called with any nodes.
-/
import Derived.Test.YtcljpcbgokgcdaaRCopy
import Derived.Test.YtcljpcbgokgcdaaRSizes
import Derived.Test.YtcljpcbgokgcdaaMathA
import Derived.Test.YtcljpcbgokgcdaaKids
namespace Go.Proofs.Ytcljpcbgokgcdaa
open Go.RowKit Go.Lib
set_option linter.unusedSimpArgs false
set_option linter.unusedVariables false

theorem run_cut_mid (A : Option Addr) (n c k h : Nat) (hk : k ≤ h) (hh : h ≤ c) (W : World) :
    (Instr.slice 22 (.slice A n c) (some (.int .i64 ((k : Nat) : Int))) (some (.int .i64 ((h : Nat) : Int))) none).run Try.prog W = .ok (.slice (cutA A c k) (h - k) (c - k)) W := by
  obtain ⟨i, hi, _, hsz, _⟩ := info_of info_node
  have h0 : (0 : Int) ≤ ((k : Nat) : Int) := by omega
  have h1 : ((k : Nat) : Int) ≤ ((h : Nat) : Int) := by omega
  have h2 : (0 : Int) ≤ ((h : Nat) : Int) := by omega
  have h3 : ((h : Nat) : Int) ≤ ((c : Nat) : Int) := by omega
  simp [Instr.slice, run_underlying Try.underlying22, Instr.sliceBounds, Instr.sliceBound, asIntOf, sizeOf, typeInfo, hi, hsz, h0, h1, h2, h3, hk, hh, cutA]

set_option maxRecDepth 10000 in
set_option maxHeartbeats 3200000 in
theorem rkids_any (A : Option Addr) (n c : Nat) (ns : List Nd) (w : World) (hn : ns.length = n) (hnb : n ≤ 1100000) (hnc : n ≤ c) (hf : Fits ns) (hns : Nodes w w.heap.size A ns) :
    Calls Try.prog 49 #[.slice A n c] w (KidsP (kidsA ns) w) := by
  have HR := Lib.hid (rrightA_any A n c ns w hn hnb hnc hf hns)
  have HN := Lib.hid hn
  have HF := Lib.hid hf
  have HNS := Lib.hid hns
  clear hn hf hns
  cases hr : rightA ns with
  | false =>
    have HK : Hid (kidsA ns = []) := Lib.hid (by unfold kidsA; rw [hr]; rfl)
    rw [hr] at HR
    clear hr
    go_enter Try.func49, Try.ntmps49
    go_wp2_with fail
    refine (HR.out).mono ?_
    rintro e w1 ⟨rfl, hg1⟩
    go_wp2
    go_ret
    exact ⟨none, 0, by rw [HK.out]; rfl, fun _ => rfl, by rw [HK.out]; exact Nat.le_refl _, by rw [HK.out]; exact KidsAt.none_, hg1⟩
  | true =>
    obtain ⟨hne, hky⟩ := right_kidsy hr
    have hpos : 1 ≤ n := by rw [← HN.out]; exact List.length_pos_iff.2 hne
    have hp0 : (0 : Int) < ((n : Nat) : Int) := by omega
    have HK : Hid (kidsA ns = kd (ns.drop 1)) := Lib.hid (by unfold kidsA; rw [hr]; rfl)
    have HPL := Lib.hid (fun h => (kids_plain hr h).2.1)
    rw [hr] at HR
    have HKY := Lib.hid hky
    clear hr hne hky
    obtain ⟨b, off, rfl, hb, hat⟩ := HNS.out (by rw [HN.out]; omega)
    obtain ⟨A1, c1, A2, c2, A3, c3, p0, p1, p2, p3, hnd⟩ := hat 0 (by rw [HN.out]; omega)
    rw [Nat.zero_mul, Nat.add_zero] at p0
    have HBK := Lib.hid hb
    have P0 := Lib.hid p0
    clear hat hnd p0 p1 p2 p3 hb
    generalize hkk : (ns.getD 0 nd0).kind = k at *
    clear hkk
    go_enter Try.func49, Try.ntmps49
    go_wp2_with fail
    refine (HR.out).mono ?_
    rintro e w1 ⟨rfl, hg1⟩
    have HG1 := Lib.hid hg1
    have p0 := (hg1.cell (p := ⟨b, off, none⟩) HBK.out).trans P0.out
    clear hg1 HR
    by_cases hk5 : k = 5
    · have hkb : (k != 5) = false := by rw [hk5]; rfl
      clear HPL hk5
      go_wp2
      clear p0
      go_loopg [3, 4] (n - 1) (fun gk s3 s4 wr => ∃ (v : Value) (dn : List (List Nd)) (at_ : Nat), v = s3 ∧ s4 = .int .i64 at_ ∧ gk = n - at_ ∧ at_ ≤ n ∧ Hid (dn.length + (n - at_) ≤ n) ∧ Hid (Kidsy (ns.drop at_)) ∧
        Hid (kd (ns.drop 1) = dn ++ kd (ns.drop at_)) ∧ Hid (OwnK w.heap.size v dn wr) ∧ Hid (Grow w wr))
      case atStart => exact ⟨_, [], 1, rfl, rfl, rfl, hpos, Lib.hid (by simp), HKY, Lib.hid rfl, Lib.hid (ownK_nil _ _), HG1⟩
      case round =>
        obtain ⟨v, dn, a, rfl, rfl, rfl, han, HDN, HKL, HKE, HO, HGR⟩ := hrel
        by_cases hlt : a < n
        · have hai : ((a : Nat) : Int) < ((n : Nat) : Int) := by omega
          have HLL : Hid ((ns.drop a).length = n - a) := Lib.hid (by rw [List.length_drop, HN.out])
          have hln : ns.drop a ≠ [] := fun e => by have := HLL.out; rw [e] at this; simp at this; omega
          obtain ⟨s, hp15, hfs, hta, hs1, hsl, hky⟩ := HKL.out.step hln
          rw [HLL.out] at hsl
          have hcl := run_cut_lo (some ⟨b, off, none⟩) n c a han
          obtain ⟨AU, hAU⟩ : ∃ AU, cutA (some ⟨b, off, none⟩) c a = AU := ⟨_, rfl⟩
          rw [hAU] at hcl
          have HNU : Hid (Nodes wr wr.heap.size AU (ns.drop a)) := Lib.hid (by
            have h1 := (HNS.out.grow HGR.out).cut c a (by rw [HN.out]; exact hnc)
            rw [hAU] at h1
            exact h1)
          have HFU := Lib.hid (HF.out.drop a)
          have HT := Lib.hid (first16_any AU (n - a) (c - a) (ns.drop a) wr HLL.out (by omega) (by omega) HFU.out HNU.out)
          rw [fs_some hfs] at HT
          have HKS := Lib.hid (kd_step hln (by rw [hta]; omega))
          rw [hta, List.drop_drop] at HKS
          rw [List.drop_drop] at hky
          have HKD := Lib.hid hky
          obtain ⟨sn, si, sd, sr⟩ := s
          dsimp only at HT HKS HKD hs1 hsl
          have HTL : Hid (((ns.drop a).take sn).length = sn) := Lib.hid (by rw [List.length_take, HLL.out]; omega)
          have hwa : IntKind.i64.wrap (((a : Nat) : Int) + ((sn : Nat) : Int)) = ((a + sn : Nat) : Int) := by rw [IntKind.wrap_i64]; omega
          have hcm0 := run_cut_mid (some ⟨b, off, none⟩) n c a (a + sn) (by omega) (by omega)
          rw [hAU, Nat.add_sub_cancel_left] at hcm0
          have hcm : ∀ W : World, (Instr.slice 22 (.slice (some ⟨b, off, none⟩) n c) (some (.int .i64 ((a : Nat) : Int))) (some (.int .i64 (((a : Nat) : Int) + ((sn : Nat) : Int)))) none).run Try.prog W = .ok (.slice AU sn (c - a)) W := fun W => by
            have := hcm0 W
            rwa [Int.natCast_add] at this
          have HC := Lib.hid (fun W h => rcopy_any AU sn (c - a) ((ns.drop a).take sn) W HTL.out (by omega) (HFU.out.take sn) h)
          clear hAU hky hp15 hfs hta hln hcm0
          go_wp2_with fail
          refine (HT.out).mono ?_
          rintro e w2 ⟨rfl, hg2⟩
          have HG2 := Lib.hid (HGR.out.trans hg2)
          have HO2 := Lib.hid (HO.out.grow hg2)
          have HNU2 := Lib.hid (HNU.out.grow hg2)
          clear hg2 HT HO HNU
          go_wp2_with fail
          refine (HC.out _ (HNU2.out.take sn)).mono ?_
          rintro e w3 ⟨A', c', he, hc', hcp, hg3⟩
          rw [HTL.out] at he hc'
          subst he
          have HG3 := Lib.hid (HG2.out.trans hg3)
          have HO3 := Lib.hid (HO2.out.grow hg3)
          have HCP := Lib.hid hcp
          have HCC := Lib.hid hc'
          have HZ3 := Lib.hid (HG2.out.size)
          have HOL := Lib.hid (show ∀ k, v.ownBlock = some k → k < w2.heap.size by obtain ⟨vals, ho, _⟩ := HO2.out; exact fun k hk => (ho.lt k hk).2)
          clear hg3 hcp HC HO2 hc'
          have HG4 := Lib.hid (grow_new w3 (.cells #[.slice A' sn c'] 22))
          have HO4 := Lib.hid (HO3.out.grow HG4.out)
          have HCELL : Hid ((w3.alloc (.cells #[.slice A' sn c'] 22)).cell? ⟨w3.heap.size, 0, none⟩ = some (.slice A' ((ns.drop a).take sn).length c')) := Lib.hid (by rw [HTL.out, World.cell?_alloc_new]; rfl)
          have HKID := Lib.hid (HCP.out.keep (w' := w3.alloc (.cells #[.slice A' sn c'] 22)) (T' := fun b => w.heap.size ≤ b ∧ v.ownBlock ≠ some b ∧ b < (w3.alloc (.cells #[.slice A' sn c'] 22)).heap.size) (fun b hb => ⟨⟨Nat.le_trans HZ3.out hb.1, fun e => by have := HOL.out b e; omega, Nat.lt_of_lt_of_le hb.2 HG4.out.size⟩, HG4.out.block b hb.2⟩))
          have HB4 := Lib.hid (Nat.le_trans HG3.out.size HG4.out.size)
          have hdn : dn.length ≤ 1100000 := by have := HDN.out; omega
          have HGA := Lib.hid (HG3.out.trans HG4.out)
          go_wp2_with (at_builtin; refine wpList_append_kid rfl _ _ rfl w.heap.size v dn ((ns.drop a).take sn) w3.heap.size A' c' rfl HO4.out rfl HCELL.out (by rw [HTL.out]; exact HCC.out) HKID.out hdn HB4.out ?_; intro v' w5 HO5 HB5)
          go_roundg (n - (a + sn))
          case rel =>
            exact ⟨v', dn ++ [(ns.drop a).take sn], a + sn, rfl, by go_num, rfl, by omega, Lib.hid (by have := HDN.out; rw [List.length_append]; simp only [List.length_singleton]; omega), HKD, Lib.hid (by rw [HKE.out, HKS.out]; simp), HO5, Lib.hid (Below.trans HGA.out HB5.out)⟩
          case measure => omega
        · obtain rfl : n = a := by omega
          have hnn : ¬ ((n : Nat) : Int) < ((n : Nat) : Int) := by omega
          have HE : Hid (kd (ns.drop 1) = dn) := Lib.hid (by rw [HKE.out, List.drop_of_length_le (by rw [HN.out]; exact Nat.le_refl _), kd_nil, List.append_nil])
          go_wp2
          go_ret
          obtain ⟨A', c', hv, h1, h2, h3⟩ := HO.out.kids
          exact ⟨A', c', by rw [HK.out, HE.out, ← hv]; rfl, h1, by rw [HK.out, HE.out]; exact h2, by rw [HK.out, HE.out]; exact h3, HGR.out⟩
    · have hkb : (k != 5) = true := by simpa using hk5
      have HE := Lib.hid (HPL.out hk5)
      clear HPL hk5
      go_wp2
      go_ret
      exact ⟨none, 0, by rw [HE.out]; rfl, fun _ => rfl, by rw [HE.out]; exact Nat.le_refl _, by rw [HE.out]; exact KidsAt.none_, HG1.out⟩
end Go.Proofs.Ytcljpcbgokgcdaa
