/-
  What the document's own Take, Right, Items, Depth and Rank come to, called with any nodes.
-/
import Derived.Test.YtcljpcbgokgcdaaRFirst
import Derived.Test.YtcljpcbgokgcdaaMathA
namespace Go.Proofs.Ytcljpcbgokgcdaa
open Go.RowKit Go.Lib
set_option linter.unusedSimpArgs false
set_option linter.unusedVariables false

def rmx : List Nd → Nat
  | [] => 0
  | n :: l => max n.shp.length (rmx l)
theorem rmx_app (a b : List Nd) : rmx (a ++ b) = max (rmx a) (rmx b) := by
  induction a with
  | nil => simp [rmx]
  | cons n a ih => simp only [List.cons_append, rmx, ih]; omega
theorem parK_rmx {f : List Nd → Option St} (hf : ∀ l s, f l = some s → s.r = rmx (l.take s.n)) : ∀ {c : Nat} {l : List Nd} {t : St}, parK f c l = some t → t.r = rmx (l.take t.n)
  | 0, l, t, h => by rw [parK_zero] at h; cases h; rfl
  | c + 1, l, t, h => by
    obtain ⟨a, b, ha, hb, rfl⟩ := parK_some h
    have h1 := parK_rmx hf ha
    have h2 := hf _ _ hb
    have h3 : rmx (l.take (a.n + b.n)) = max (rmx (l.take a.n)) (rmx ((l.drop a.n).take b.n)) := by rw [← rmx_app, ← List.take_add]
    simp only [St.plus]
    rw [h3, h1, h2]
theorem par_rmx : ∀ {d : Nat} {l : List Nd} {s : St}, par d l = some s → s.r = rmx (l.take s.n)
  | 0, l, s, h => by cases h
  | d + 1, l, s, h => by
    obtain ⟨e, n, l', t, he, rfl, hn, ht, rfl⟩ := par_parts h
    obtain rfl : d = e := by omega
    have h1 := parK_rmx (fun l s h => par_rmx h) ht
    simp only [top, List.take_succ_cons, rmx]
    omega
theorem right_fs {l : List Nd} (h : rightA l = true) : ws l = fs l ∧ (ws l).r = rmx l := by
  obtain ⟨s, hs⟩ := right_some h
  obtain ⟨hp, hi, hn⟩ := whl_some hs
  rw [ws_some hs, fs_some (fst_mk hp hi)]
  exact ⟨rfl, by rw [par_rmx hp, hn, List.take_length]⟩
theorem rmx_step {ns : List Nd} {k : Nat} (h : k < ns.length) : rmx (ns.take (k + 1)) = max (rmx (ns.take k)) (ns.getD k nd0).shp.length := by
  have e : ns.take (k + 1) = ns.take k ++ [ns.getD k nd0] := by
    rw [List.take_add_one]
    congr 1
    simp [List.getD, h]
  rw [e, rmx_app]
  simp [rmx]

theorem first16_any (A : Option Addr) (n c : Nat) (ns : List Nd) (w : World) (hn : ns.length = n) (hnb : n ≤ 1100000) (hnc : n ≤ c) (hf : Fits ns) (hns : Nodes w w.heap.size A ns) :
    Calls Try.prog 69 #[.slice A n c, .int .i64 16] w (fun e w' => e = .returned (.tuple #[.int .i64 ((fs ns).n : Nat), .int .i64 ((fs ns).i : Nat), .int .i64 ((fs ns).d : Nat)]) ∧ Grow w w') :=
  rfirst_any 16 A n c ns w (Nat.le_refl _) hn hnb hnc hf hns

set_option maxRecDepth 10000 in
theorem rtake_any (A : Option Addr) (n c : Nat) (ns : List Nd) (w : World) (hn : ns.length = n) (hnb : n ≤ 1100000) (hnc : n ≤ c) (hf : Fits ns) (hns : Nodes w w.heap.size A ns) :
    Calls Try.prog 48 #[.slice A n c] w (Ret (.int .i64 (takeA ns : Nat)) w) := by
  have HC := Lib.hid (first16_any A n c ns w hn hnb hnc hf hns)
  have HT := Lib.hid (show takeA ns = (fs ns).n from rfl)
  clear hn hf hns
  generalize fs ns = s at *
  generalize takeA ns = z at *
  obtain ⟨p, q, u, v⟩ := s
  dsimp only at *
  go_enter Try.func48, Try.ntmps48
  go_wp2_with fail
  refine (HC.out).mono ?_
  rintro x w2 ⟨rfl, hg⟩
  go_wp2
  go_ret
  exact ⟨by rw [HT.out]; rfl, hg⟩

set_option maxRecDepth 10000 in
theorem rrightA_any (A : Option Addr) (n c : Nat) (ns : List Nd) (w : World) (hn : ns.length = n) (hnb : n ≤ 1100000) (hnc : n ≤ c) (hf : Fits ns) (hns : Nodes w w.heap.size A ns) :
    Calls Try.prog 29 #[.slice A n c] w (Ret (.bool (rightA ns)) w) := by
  have HC := Lib.hid (rtake_any A n c ns w hn hnb hnc hf hns)
  have HR := Lib.hid (right_iff_take ns)
  have hz := take_le ns
  rw [hn] at HR hz
  clear hn hf hns
  generalize rightA ns = β at *
  generalize takeA ns = z at *
  by_cases h0 : n = 0
  · subst h0
    have HB : Hid (β = false) := Lib.hid (by rw [HR.out, Bool.and_eq_false_iff]; left; exact decide_eq_false (by omega))
    go_enter Try.func29, Try.ntmps29
    go_wp2
    go_ret
    exact ⟨by rw [HB.out]; rfl, Grow.refl _⟩
  · have hp : (0 : Int) < ((n : Nat) : Int) := by omega
    by_cases hzn : z = n
    · have HB : Hid (β = true) := Lib.hid (by rw [HR.out]; simp [hzn]; omega)
      subst hzn
      have hb : (((z : Nat) : Int) == ((z : Nat) : Int)) = true := by simp
      go_enter Try.func29, Try.ntmps29
      go_wp2_with fail
      refine (HC.out).mono ?_
      rintro x w2 ⟨rfl, hg⟩
      go_wp2
      go_ret
      exact ⟨by rw [HB.out]; rfl, hg⟩
    · have HB : Hid (β = false) := Lib.hid (by rw [HR.out]; simp [hzn])
      have hb : (((z : Nat) : Int) == ((n : Nat) : Int)) = false := by simp; omega
      go_enter Try.func29, Try.ntmps29
      go_wp2_with fail
      refine (HC.out).mono ?_
      rintro x w2 ⟨rfl, hg⟩
      go_wp2
      go_ret
      exact ⟨by rw [HB.out]; rfl, hg⟩

end Go.Proofs.Ytcljpcbgokgcdaa
