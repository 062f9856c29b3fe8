/-
  What the document's own Make and Right of tight forms come to.
-/
import Derived.Test.YtcljpcbgokgcdaaRForm
import Derived.Test.YtcljpcbgokgcdaaRSizes
import Derived.Test.YtcljpcbgokgcdaaSamesA
namespace Go.Proofs.Ytcljpcbgokgcdaa
open Go.RowKit Go.Lib
set_option linter.unusedSimpArgs false
set_option linter.unusedVariables false

def RMakeP (ns : List Nd) (w : World) (e : Ending) (w' : World) : Prop :=
  Grow w w' ∧ ((rightA ns = false ∧ e = .returned (.tuple #[.slice none 0 0, .bool false])) ∨ (rightA ns = true ∧ ∃ A' r c', e = .returned (.tuple #[.slice A' r c', .bool true]) ∧ (formA ns).length = r ∧ r ≤ c' ∧ Nodes w' w'.heap.size A' (formA ns)))
set_option maxRecDepth 10000 in
theorem rmake_any (A : Option Addr) (n c : Nat) (ns : List Nd) (w : World) (hn : ns.length = n) (hnc : n ≤ c) (hf : Fine ns) (hns : Nodes w w.heap.size A ns) :
    Calls Try.prog 12 #[.slice A n c] w (RMakeP ns w) := by
  have hn6 : n ≤ 1100000 := by rw [← hn]; exact hf.1
  have HC := Lib.hid (rrightA_any A n c ns w hn hn6 hnc hf.2.1 hns)
  have HFM := Lib.hid (fun h W hw => rform_any (ws ns).d A n c ns W hn hnc hf h (Nat.le_refl _) hw)
  have HNS := Lib.hid hns
  obtain ⟨β, hβ⟩ : ∃ β, rightA ns = β := ⟨_, rfl⟩
  rw [hβ] at HC HFM
  have HB := Lib.hid hβ
  clear hn hnc hf hns hβ
  go_enter Try.func12, Try.ntmps12
  go_wp2_with fail
  refine (HC.out).mono ?_
  rintro e w2 ⟨rfl, hg2⟩
  have HG2 := Lib.hid hg2
  have HN2 := Lib.hid (HNS.out.grow hg2)
  clear hg2
  cases β with
  | false =>
    go_wp2
    go_ret2
    exact ⟨HG2.out, .inl ⟨HB.out, rfl⟩⟩
  | true =>
    have HK := Lib.hid (HFM.out rfl w2 HN2.out)
    clear HC HFM HN2 HNS
    obtain ⟨r, hr⟩ : ∃ r, (formA ns).length = r := ⟨_, rfl⟩
    have HR := Lib.hid hr
    clear hr
    go_wp2_with fail
    refine (HK.out).mono ?_
    rintro e w3 ⟨A', c', rfl, hc, hN, hg3⟩
    have HG3 := Lib.hid (HG2.out.trans hg3)
    have HN3 := Lib.hid hN.nodes
    rw [HR.out] at hc ⊢
    have HC3 := Lib.hid hc
    clear hc hN hg3 HK
    go_wp2
    go_ret2
    exact ⟨HG3.out, .inr ⟨HB.out, _, _, _, rfl, HR.out, HC3.out, HN3.out⟩⟩
set_option maxRecDepth 10000 in
theorem rtright_any (A : Option Addr) (n c : Nat) (ns : List Nd) (w : World) (hn : ns.length = n) (hnc : n ≤ c) (hf : Fine ns) (hns : Nodes w w.heap.size A ns) :
    Calls Try.prog 19 #[.slice A n c] w (Ret (.bool (rightA ns && decide (ns = formA ns))) w) := by
  have HC := Lib.hid (rmake_any A n c ns w hn hnc hf hns)
  have HFF : Hid (rightA ns = true → Fine (formA ns)) := Lib.hid (fun h => (form_right h hf).2.2.2.2.1)
  have HNS := Lib.hid hns
  have HF := Lib.hid hf
  have HN := Lib.hid hn
  unfold RMakeP at HC
  generalize rightA ns = β at *
  clear hn hnc hf hns
  go_enter Try.func19, Try.ntmps19
  go_wp2_with fail
  refine (HC.out).mono ?_
  rintro e w2 ⟨hg, ⟨rfl, rfl⟩ | ⟨rfl, A', r, c', rfl, hr, hc, hN⟩⟩
  · have HG := Lib.hid hg
    clear hg HC
    go_wp2
    go_ret
    exact ⟨rfl, HG.out⟩
  · have HG := Lib.hid hg
    have hfn := HFF.out rfl
    have HS := Lib.hid (rsameN_any A A' n r c c' ns (formA ns) w2 HN.out hr (by rw [← HN.out]; exact HF.out.1) (by rw [← hr]; exact hfn.1) HF.out.2.1 hfn.2.1 (HNS.out.grow hg) hN)
    clear hg hN hr hfn HC
    generalize decide (ns = formA ns) = γ at *
    go_wp2_with fail
    refine (HS.out).mono ?_
    rintro x w3 ⟨rfl, hg3⟩
    go_wp2
    go_ret
    exact ⟨rfl, HG.out.trans hg3⟩
end Go.Proofs.Ytcljpcbgokgcdaa
