/-
  What tight.Make and tight.Right come to, called with any nodes.
-/
import Derived.Test.YtcljpcbgokgcdaaLay
import Derived.Test.YtcljpcbgokgcdaaSamesA
namespace Go.Proofs.Ytcljpcbgokgcdaa
open Go.RowKit Go.Lib
set_option linter.unusedSimpArgs false
set_option linter.unusedVariables false

theorem make_room (n : Nat) (hn : n ≤ 1100000) :
    ∃ cur : Array Value, cur.size = n * 4 ∧ ∀ W : World, (Instr.makeSlice 22 (.int .i64 0) (.int .i64 (n : Nat))).run Try.prog W = .ok (.slice (some ⟨W.heap.size, 0, none⟩) 0 n) (W.alloc (.cells cur 30)) := by
  obtain ⟨i, hi, hz, hs, hby⟩ := info_of info_node
  refine ⟨_, size_madeCells (Value.cells (.agg #[.int .i64 0, .slice none 0 0, .slice none 0 0, .slice none 0 0])) (n * 4), fun W => ?_⟩
  have hb' : (i.bytes : Int) * ((n : Nat) : Int) ≤ 281474976710656 := by
    have h : ((i.bytes * n : Nat) : Int) ≤ 281474976710656 := by rw [hby]; omega
    rwa [Int.natCast_mul] at h
  have hr := run_make (P := Try.prog) W 22 30 i _ Try.underlying22 hi hz .i64 .i64 0 n (by omega) (by omega) hb' (by omega)
  simp only [Int.toNat_natCast, hs] at hr
  exact hr

def FormP (β : Bool) (F : List Nd) (w : World) (e : Ending) (w' : World) : Prop :=
  Grow w w' ∧ ((β = false ∧ e = .returned (.tuple #[.slice none 0 0, .bool false])) ∨ (β = true ∧ ∃ A r c, e = .returned (.tuple #[.slice A r c, .bool true]) ∧ F.length = r ∧ r ≤ c ∧ Nodes w' w'.heap.size A F))
set_option maxRecDepth 10000 in
set_option maxHeartbeats 1600000 in
theorem formOf_any (A : Option Addr) (n c : Nat) (ns : List Nd) (w : World) (hn : ns.length = n) (hnc : n ≤ c) (hf : Fine ns) (hi : (ws ns).i ≤ 1099999) (hns : Nodes w w.heap.size A ns) :
    Calls Try.prog 27 #[.slice A n c] w (FormP (rightA ns) (formA ns) w) := by
  have hnb : n ≤ 1100000 := by rw [← hn]; exact hf.1
  have HC := Lib.hid (aright_any A n c ns w hn hnb hf.2.1 hns)
  cases hr : rightA ns with
  | false =>
    rw [hr] at HC
    clear hr hf hi hns hn
    go_enter Try.func27, Try.ntmps27
    go_wp2_with fail
    refine (HC.out).mono ?_
    rintro e w2 ⟨rfl, hg⟩
    have HG := Lib.hid hg
    clear hg HC
    go_wp2
    go_ret2
    exact ⟨HG.out, .inl ⟨rfl, rfl⟩⟩
  | true =>
    rw [hr] at HC
    obtain ⟨s, hs⟩ := right_some hr
    rw [ws_some hs] at hi
    have HP := Lib.hid (whl_some hs).1
    have HF := Lib.hid hf
    have HN := Lib.hid hn
    have HNS := Lib.hid hns
    have HI := Lib.hid hi
    clear hr hs hf hn hns hi
    obtain ⟨cur, hcur, hmk⟩ := make_room n hnb
    have HCU := Lib.hid hcur
    clear hcur
    go_enter Try.func27, Try.ntmps27
    go_wp2_with fail
    refine (HC.out).mono ?_
    rintro e w2 ⟨rfl, hg⟩
    have HG2 := Lib.hid hg
    have HG3 := Lib.hid (grow_new w2 (.cells cur 30))
    obtain ⟨g, hg0⟩ : ∃ g, w2.heap.size = g := ⟨_, rfl⟩
    have HGE := Lib.hid hg0
    have hrow : RowC (w2.alloc (.cells cur 30)) g n [] := by
      have h := heap_alloc_new w2 (.cells cur 30)
      rw [hg0] at h
      exact ⟨cur, h, HCU.out, Nat.zero_le _, fun i hi => absurd hi (by simp)⟩
    have hnt : NodesT (fun b => ¬ b = g) (w2.alloc (.cells cur 30)) A ns := by
      refine (Nodes.nodesT (HNS.out.grow HG2.out)).keep fun b hb => ⟨by rw [← hg0]; exact Nat.ne_of_lt hb, HG3.out.block b hb⟩
    have HL := Lib.hid (lay_any 16 g n 0 [] A n c ns s _ HP.out HI.out HF.out hnb rfl HN.out (by omega) hnc hrow hnt)
    have HGW := Lib.hid (HG2.out.trans HG3.out)
    clear hg HC hrow hnt hg0
    rw [← HGE.out] at HL
    go_wp2_with fail
    refine (HL.out).mono ?_
    rintro x w5 ⟨r, A', q, c', rfl, hr, _, _, hrow, _, hk⟩
    rw [List.nil_append] at hr hrow
    have HR := Lib.hid hr
    have HRW := Lib.hid hrow
    have HK := Lib.hid (Kept.grow (w := w) HGW.out hk (fun i hi => by rw [hi]; exact HG2.out.size))
    have HRN : Hid (r ≤ n) := Lib.hid (by obtain ⟨_, _, _, h, _⟩ := hrow; rw [hr] at h; exact h)
    clear hr hrow hk HL
    go_wp2
    go_ret2
    exact ⟨HK.out, .inr ⟨rfl, _, _, _, rfl, HR.out, HRN.out, HRW.out.nodes⟩⟩

def MakeP (ns : List Nd) (w : World) (e : Ending) (w' : World) : Prop :=
  Grow w w' ∧ ((rightA ns = false ∧ e = .returned (.tuple #[.slice none 0 0, .bool false])) ∨ (rightA ns = true ∧ ∃ g r, w.heap.size ≤ g ∧ e = .returned (.tuple #[.slice (some ⟨g, 0, none⟩) r r, .bool true]) ∧ (formA ns).length = r ∧ Copied w' g (formA ns)))
set_option maxRecDepth 10000 in
theorem make_any (A : Option Addr) (n c : Nat) (ns : List Nd) (w : World) (hn : ns.length = n) (hnc : n ≤ c) (hf : Fine ns) (hi : (ws ns).i ≤ 1099999) (hns : Nodes w w.heap.size A ns) :
    Calls Try.prog 11 #[.slice A n c] w (MakeP ns w) := by
  have HC := Lib.hid (formOf_any A n c ns w hn hnc hf hi hns)
  have HFF : Hid (rightA ns = true → Fine (formA ns)) := Lib.hid (fun h => (form_right h hf).2.2.2.2.1)
  obtain ⟨β, hβ⟩ : ∃ β, rightA ns = β := ⟨_, rfl⟩
  rw [hβ] at HC HFF
  have HB := Lib.hid hβ
  clear hn hnc hf hi hns hβ
  go_enter Try.func11, Try.ntmps11
  go_wp2_with fail
  refine (HC.out).mono ?_
  rintro e w2 ⟨hg, ⟨rfl, rfl⟩ | ⟨rfl, A', r, c', rfl, hr, hc, hN⟩⟩
  · have HG := Lib.hid hg
    clear hg HC
    go_wp2
    go_ret2
    exact ⟨HG.out, .inl ⟨HB.out, rfl⟩⟩
  · have HG := Lib.hid hg
    have hfn := HFF.out rfl
    have HK := Lib.hid (copy_any A' r c' (formA ns) w2 hr (by rw [← hr]; exact hfn.1) hfn.2.1 hN)
    have HR := Lib.hid hr
    clear hg hN hr hfn HC
    go_wp2_with fail
    refine (HK.out).mono ?_
    rintro x w3 ⟨rfl, hcp, hg3⟩
    have HG3 := Lib.hid (HG.out.trans hg3)
    have HCP := Lib.hid hcp
    have HZ := Lib.hid HG.out.size
    clear hg3 hcp HK
    go_wp2
    go_ret2
    exact ⟨HG3.out, .inr ⟨HB.out, _, _, HZ.out, rfl, HR.out, HCP.out⟩⟩
set_option maxRecDepth 10000 in
theorem tright_any (A : Option Addr) (n c : Nat) (ns : List Nd) (w : World) (hn : ns.length = n) (hnc : n ≤ c) (hf : Fine ns) (hi : (ws ns).i ≤ 1099999) (hns : Nodes w w.heap.size A ns) :
    Calls Try.prog 18 #[.slice A n c] w (Ret (.bool (rightA ns && decide (ns = formA ns))) w) := by
  have HC := Lib.hid (formOf_any A n c ns w hn hnc hf hi hns)
  have HFF : Hid (rightA ns = true → Fine (formA ns)) := Lib.hid (fun h => (form_right h hf).2.2.2.2.1)
  have HNS := Lib.hid hns
  have HF := Lib.hid hf
  have HN := Lib.hid hn
  generalize rightA ns = β at *
  clear hn hnc hf hi hns
  go_enter Try.func18, Try.ntmps18
  go_wp2_with fail
  refine (HC.out).mono ?_
  rintro e w2 ⟨hg, ⟨rfl, rfl⟩ | ⟨rfl, A', r, c', rfl, hr, hc, hN⟩⟩
  · have HG := Lib.hid hg
    clear hg HC
    go_wp2
    go_ret
    exact ⟨rfl, HG.out⟩
  · have HG := Lib.hid hg
    have hfn := HFF.out rfl
    have HS := Lib.hid (same_any A A' n r c c' ns (formA ns) w2 HN.out hr (by rw [← HN.out]; exact HF.out.1) (by rw [← hr]; exact hfn.1) HF.out.2.1 hfn.2.1 (HNS.out.grow hg) hN)
    clear hg hN hr hfn HC
    generalize decide (ns = formA ns) = γ at *
    go_wp2_with fail
    refine (HS.out).mono ?_
    rintro x w3 ⟨rfl, hg3⟩
    go_wp2
    go_ret
    exact ⟨rfl, HG.out.trans hg3⟩
end Go.Proofs.Ytcljpcbgokgcdaa
