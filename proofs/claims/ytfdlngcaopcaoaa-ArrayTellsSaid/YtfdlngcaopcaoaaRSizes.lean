/-
  What the document's own Take, Right, Items, Depth and Rank come to, called with any nodes.
-/
import Derived.Test.YtfdlngcaopcaoaaRFirst
import Derived.Test.YtfdlngcaopcaoaaLMath
namespace Go.Proofs.Ytfdlngcaopcaoaa
open Go.RowKit Go.Lib
set_option linter.unusedSimpArgs false
set_option linter.unusedVariables false

def rmx : List Nd → Nat
  | [] => 0
  | n :: l => max n.shp.length (rmx l)
theorem rmx_app (a b : List Nd) : rmx (a ++ b) = max (rmx a) (rmx b) := by
  induction a with
  | nil => simp [rmx]
  | cons n a ih => simp only [List.cons_append, rmx, ih]; omega
theorem parK_rmx {f : List Nd → Option St} (hf : ∀ l s, f l = some s → s.r = rmx (l.take s.n)) : ∀ {c : Nat} {l : List Nd} {t : St}, parK f c l = some t → t.r = rmx (l.take t.n)
  | 0, l, t, h => by rw [parK_zero] at h; cases h; rfl
  | c + 1, l, t, h => by
    obtain ⟨a, b, ha, hb, rfl⟩ := parK_some h
    have h1 := parK_rmx hf ha
    have h2 := hf _ _ hb
    have h3 : rmx (l.take (a.n + b.n)) = max (rmx (l.take a.n)) (rmx ((l.drop a.n).take b.n)) := by rw [← rmx_app, ← List.take_add]
    simp only [St.plus]
    rw [h3, h1, h2]
theorem par_rmx : ∀ {d : Nat} {l : List Nd} {s : St}, par d l = some s → s.r = rmx (l.take s.n)
  | 0, l, s, h => by cases h
  | d + 1, l, s, h => by
    obtain ⟨e, n, l', t, he, rfl, hn, ht, rfl⟩ := par_parts h
    obtain rfl : d = e := by omega
    have h1 := parK_rmx (fun l s h => par_rmx h) ht
    simp only [top, List.take_succ_cons, rmx]
    omega
theorem right_fs {l : List Nd} (h : rightA l = true) : ws l = fs l ∧ (ws l).r = rmx l := by
  obtain ⟨s, hs⟩ := right_some h
  obtain ⟨hp, hi, hn⟩ := whl_some hs
  rw [ws_some hs, fs_some (fst_mk hp hi)]
  exact ⟨rfl, by rw [par_rmx hp, hn, List.take_length]⟩
theorem rmx_step {ns : List Nd} {k : Nat} (h : k < ns.length) : rmx (ns.take (k + 1)) = max (rmx (ns.take k)) (ns.getD k nd0).shp.length := by
  have e : ns.take (k + 1) = ns.take k ++ [ns.getD k nd0] := by
    rw [List.take_add_one]
    congr 1
    simp [List.getD, h]
  rw [e, rmx_app]
  simp [rmx]

theorem first16_any (A : Option Addr) (n c : Nat) (ns : List Nd) (w : World) (hn : ns.length = n) (hnb : n ≤ 1000000) (hnc : n ≤ c) (hf : Fits ns) (hns : Nodes w w.heap.size A ns) :
    Calls Try.prog 28 #[.slice A n c, .int .i64 16] w (fun e w' => e = .returned (.tuple #[.int .i64 ((fs ns).n : Nat), .int .i64 ((fs ns).i : Nat), .int .i64 ((fs ns).d : Nat)]) ∧ Grow w w') :=
  rfirst_any 16 A n c ns w (Nat.le_refl _) hn hnb hnc hf hns

set_option maxRecDepth 10000 in
theorem rtake_any (A : Option Addr) (n c : Nat) (ns : List Nd) (w : World) (hn : ns.length = n) (hnb : n ≤ 1000000) (hnc : n ≤ c) (hf : Fits ns) (hns : Nodes w w.heap.size A ns) :
    Calls Try.prog 17 #[.slice A n c] w (Ret (.int .i64 (takeA ns : Nat)) w) := by
  have HC := Lib.hid (first16_any A n c ns w hn hnb hnc hf hns)
  have HT := Lib.hid (show takeA ns = (fs ns).n from rfl)
  clear hn hf hns
  generalize fs ns = s at *
  generalize takeA ns = z at *
  obtain ⟨p, q, u, v⟩ := s
  dsimp only at *
  go_enter Try.func17, Try.ntmps17
  go_wp2_with fail
  refine (HC.out).mono ?_
  rintro x w2 ⟨rfl, hg⟩
  go_wp2
  go_ret
  exact ⟨by rw [HT.out]; rfl, hg⟩

set_option maxRecDepth 10000 in
theorem rrightA_any (A : Option Addr) (n c : Nat) (ns : List Nd) (w : World) (hn : ns.length = n) (hnb : n ≤ 1000000) (hnc : n ≤ c) (hf : Fits ns) (hns : Nodes w w.heap.size A ns) :
    Calls Try.prog 15 #[.slice A n c] w (Ret (.bool (rightA ns)) w) := by
  have HC := Lib.hid (rtake_any A n c ns w hn hnb hnc hf hns)
  have HR := Lib.hid (right_iff_take ns)
  have hz := take_le ns
  rw [hn] at HR hz
  clear hn hf hns
  generalize rightA ns = β at *
  generalize takeA ns = z at *
  by_cases h0 : n = 0
  · subst h0
    have HB : Hid (β = false) := Lib.hid (by rw [HR.out, Bool.and_eq_false_iff]; left; exact decide_eq_false (by omega))
    go_enter Try.func15, Try.ntmps15
    go_wp2
    go_ret
    exact ⟨by rw [HB.out]; rfl, Grow.refl _⟩
  · have hp : (0 : Int) < ((n : Nat) : Int) := by omega
    by_cases hzn : z = n
    · have HB : Hid (β = true) := Lib.hid (by rw [HR.out]; simp [hzn]; omega)
      subst hzn
      have hb : (((z : Nat) : Int) == ((z : Nat) : Int)) = true := by simp
      go_enter Try.func15, Try.ntmps15
      go_wp2_with fail
      refine (HC.out).mono ?_
      rintro x w2 ⟨rfl, hg⟩
      go_wp2
      go_ret
      exact ⟨by rw [HB.out]; rfl, hg⟩
    · have HB : Hid (β = false) := Lib.hid (by rw [HR.out]; simp [hzn])
      have hb : (((z : Nat) : Int) == ((n : Nat) : Int)) = false := by simp; omega
      go_enter Try.func15, Try.ntmps15
      go_wp2_with fail
      refine (HC.out).mono ?_
      rintro x w2 ⟨rfl, hg⟩
      go_wp2
      go_ret
      exact ⟨by rw [HB.out]; rfl, hg⟩

set_option maxRecDepth 10000 in
theorem ritems_any (A : Option Addr) (n c : Nat) (ns : List Nd) (w : World) (hn : ns.length = n) (hnb : n ≤ 1000000) (hnc : n ≤ c) (hf : Fits ns) (hns : Nodes w w.heap.size A ns) :
    Calls Try.prog 19 #[.slice A n c] w (Ret (.int .i64 ((ws ns).i : Nat)) w) := by
  have HC := Lib.hid (rrightA_any A n c ns w hn hnb hnc hf hns)
  have HF := Lib.hid (fun W h => first16_any A n c ns W hn hnb hnc hf h)
  have HNS := Lib.hid hns
  have HR := Lib.hid (right_fs (l := ns))
  have HZ : Hid (rightA ns = false → (ws ns).i = 0) := Lib.hid (fun h => by rw [ws_none (right_no h)]; rfl)
  clear hn hf hns
  generalize ws ns = t at *
  generalize fs ns = s at *
  obtain ⟨p, q, u, v⟩ := s
  cases hr : rightA ns with
  | false =>
    rw [hr] at HC
    have HZ' := Lib.hid (HZ.out hr)
    clear hr HR HZ
    go_enter Try.func19, Try.ntmps19
    go_wp2_with fail
    refine (HC.out).mono ?_
    rintro x w2 ⟨rfl, hg⟩
    go_wp2
    go_ret
    exact ⟨by rw [HZ'.out]; rfl, hg⟩
  | true =>
    rw [hr] at HC
    have HE := Lib.hid (HR.out hr).1
    clear hr HR HZ
    dsimp only at HF
    go_enter Try.func19, Try.ntmps19
    go_wp2_with fail
    refine (HC.out).mono ?_
    rintro x w2 ⟨rfl, hg⟩
    have HG := Lib.hid hg
    clear hg HC
    go_wp2_with fail
    refine (HF.out _ (HNS.out.grow HG.out)).mono ?_
    rintro x w3 ⟨rfl, hg⟩
    go_wp2
    go_ret
    exact ⟨by rw [HE.out]; rfl, HG.out.trans hg⟩

set_option maxRecDepth 10000 in
theorem rdepth_any (A : Option Addr) (n c : Nat) (ns : List Nd) (w : World) (hn : ns.length = n) (hnb : n ≤ 1000000) (hnc : n ≤ c) (hf : Fits ns) (hns : Nodes w w.heap.size A ns) :
    Calls Try.prog 21 #[.slice A n c] w (Ret (.int .i64 ((ws ns).d : Nat)) w) := by
  have HC := Lib.hid (rrightA_any A n c ns w hn hnb hnc hf hns)
  have HF := Lib.hid (fun W h => first16_any A n c ns W hn hnb hnc hf h)
  have HNS := Lib.hid hns
  have HR := Lib.hid (right_fs (l := ns))
  have HZ : Hid (rightA ns = false → (ws ns).d = 0) := Lib.hid (fun h => by rw [ws_none (right_no h)]; rfl)
  clear hn hf hns
  generalize ws ns = t at *
  generalize fs ns = s at *
  obtain ⟨p, q, u, v⟩ := s
  cases hr : rightA ns with
  | false =>
    rw [hr] at HC
    have HZ' := Lib.hid (HZ.out hr)
    clear hr HR HZ
    go_enter Try.func21, Try.ntmps21
    go_wp2_with fail
    refine (HC.out).mono ?_
    rintro x w2 ⟨rfl, hg⟩
    go_wp2
    go_ret
    exact ⟨by rw [HZ'.out]; rfl, hg⟩
  | true =>
    rw [hr] at HC
    have HE := Lib.hid (HR.out hr).1
    clear hr HR HZ
    dsimp only at HF
    go_enter Try.func21, Try.ntmps21
    go_wp2_with fail
    refine (HC.out).mono ?_
    rintro x w2 ⟨rfl, hg⟩
    have HG := Lib.hid hg
    clear hg HC
    go_wp2_with fail
    refine (HF.out _ (HNS.out.grow HG.out)).mono ?_
    rintro x w3 ⟨rfl, hg⟩
    go_wp2
    go_ret
    exact ⟨by rw [HE.out]; rfl, HG.out.trans hg⟩

set_option maxRecDepth 10000 in
set_option maxHeartbeats 800000 in
theorem rrank_any (A : Option Addr) (n c : Nat) (ns : List Nd) (w : World) (hn : ns.length = n) (hnb : n ≤ 1000000) (hnc : n ≤ c) (hf : Fits ns) (hns : Nodes w w.heap.size A ns) :
    Calls Try.prog 23 #[.slice A n c] w (Ret (.int .i64 ((ws ns).r : Nat)) w) := by
  have HC := Lib.hid (rrightA_any A n c ns w hn hnb hnc hf hns)
  have HNS := Lib.hid hns
  have HN := Lib.hid hn
  have HFT := Lib.hid hf
  have HR := Lib.hid (right_fs (l := ns))
  have HZ : Hid (rightA ns = false → (ws ns).r = 0) := Lib.hid (fun h => by rw [ws_none (right_no h)]; rfl)
  clear hn hf hns
  generalize ws ns = t at *
  cases hr : rightA ns with
  | false =>
    rw [hr] at HC
    have HZ' := Lib.hid (HZ.out hr)
    clear hr HR HZ
    go_enter Try.func23, Try.ntmps23
    go_wp2_with fail
    refine (HC.out).mono ?_
    rintro x w2 ⟨rfl, hg⟩
    go_wp2
    go_ret
    exact ⟨by rw [HZ'.out]; rfl, hg⟩
  | true =>
    rw [hr] at HC
    have HE := Lib.hid (HR.out hr).2
    clear hr HR HZ
    go_enter Try.func23, Try.ntmps23
    go_wp2_with fail
    refine (HC.out).mono ?_
    rintro x w2 ⟨rfl, hg⟩
    have HG := Lib.hid hg
    have HN2 := Lib.hid (HNS.out.grow hg)
    clear hg HC HNS
    go_wp2
    go_loopg [3, 4] n (fun g s3 s4 wr => ∃ k m : Nat, k ≤ n ∧ g = n - k ∧ s4 = .int .i64 k ∧ s3 = .int .i64 m ∧ m ≤ 1000000 ∧ Hid (m = rmx (ns.take k)) ∧ w2 = wr)
    case atStart => exact ⟨0, 0, Nat.zero_le _, rfl, rfl, rfl, by omega, Lib.hid rfl, rfl⟩
    case round =>
      obtain ⟨k, m, hk, rfl, rfl, rfl, hm, HM, rfl⟩ := hrel
      by_cases hlt : k < n
      · have hlti : ((k : Nat) : Int) < ((n : Nat) : Int) := by omega
        have hkl : k < ns.length := by rw [HN.out]; exact hlt
        obtain ⟨b, off, rfl, hb, hat⟩ := HN2.out (by omega)
        obtain ⟨A1, c1, A2, c2, A3, c3, p0, p1, p2, p3, hnd⟩ := hat k hkl
        have HST := Lib.hid (rmx_step hkl)
        have hl1 := (HFT.out.at_ k).2.1
        clear hat hnd p0 p2 p3 hb
        generalize (ns.getD k nd0).shp.length = l1 at *
        have hmx := max_is m l1
        have hmx' := max_is' m l1
        obtain ⟨M, hM⟩ : ∃ M, max m l1 = M := ⟨_, rfl⟩
        rw [hM] at hmx hmx'
        have hM6 : M ≤ 1000000 := by omega
        have HM2 : Hid (M = rmx (ns.take (k + 1))) := Lib.hid (by rw [HST.out, ← HM.out, hM])
        clear hM HST
        go_wp2
        go_roundg (n - (k + 1))
        case rel => exact ⟨k + 1, M, by omega, rfl, by go_num, by go_num, hM6, HM2, rfl⟩
        case measure => omega
      · obtain rfl : n = k := by omega
        have HX : Hid (t.r = m) := Lib.hid (by rw [HE.out, HM.out, List.take_of_length_le (by rw [HN.out]; exact Nat.le_refl _)])
        go_wp2
        go_ret
        exact ⟨by rw [HX.out]; rfl, HG.out⟩
end Go.Proofs.Ytfdlngcaopcaoaa
