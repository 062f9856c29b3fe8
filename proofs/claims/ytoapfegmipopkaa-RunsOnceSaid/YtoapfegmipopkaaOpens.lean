/-
  What cursor.Open comes to, and the document's own Open.
-/
import Derived.Test.YtoapfegmipopkaaOps
namespace Go.Proofs.Ytoapfegmipopkaa
open Go.RowKit

/-- the place to open at, held within its ends -/
def clampS (n : Int) : Int := min (max n 0) 1099511627776
def openS (bs : List Int) (n : Int) : St := ⟨bs, clampS n, 0, 0⟩
theorem clamp_bd (n : Int) : 0 ≤ clampS n ∧ clampS n ≤ 1099511627776 := by unfold clampS; omega
theorem open_good (bs : List Int) (n : Int) (hb : Byt bs) (hl : bs.length ≤ 1000000) : Good (openS bs n) := ⟨hb, (clamp_bd n).1, by have := (clamp_bd n).2; show clampS n + bs.length ≤ _; omega, fun h => absurd rfl h⟩

/-- a new cursor, and nothing that was there has turned; its bytes lie in new memory too -/
def Opened (t : TypeId) (s : St) (w : World) (e : Ending) (w' : World) : Prop :=
  ∃ g, e = .returned (.pointer (some ⟨g, 0, none⟩)) ∧ w.heap.size ≤ g ∧ g < w'.heap.size ∧ Grow w w' ∧ ∀ S : Nat → Prop, S g → (∀ k, S k → k < w.heap.size ∨ k = g ∨ w'.heap.size ≤ k) → IsC t S w' g s

theorem own_open {w w1 w2 : World} {v : Value} {m : Nat} {bs : List Int} (h : w2.ownsRow w.heap.size 5 1 v (0 + m) (u8s ([] ++ bs))) (hw : Grow w w1) (hb : Below w.heap.size w1 w2) :
    ∃ A cap, v = .slice A m cap ∧ (A = none → cap = 0) ∧ Nums .u8 w2 w2.heap.size A bs ∧ m ≤ cap ∧ Grow w w2 ∧ (∀ a, A = some a → w.heap.size ≤ a.block ∧ a.block < w2.heap.size) := by
  rw [Nat.zero_add, List.nil_append] at h
  obtain ⟨A3, c3, rfl, hA3, hN3, _⟩ := own_nums h
  exact ⟨A3, c3, rfl, hA3, hN3, own_cap h, Below.trans hw hb, fun a ha => h.lt a.block (by rw [ha]; rfl)⟩

theorem new_cursor {t : TypeId} {w w2 : World} {A : Option Addr} {m cap : Nat} {bs : List Int} {n P : Int} (hm : bs.length = m) (hP : clampS n = P) (hA : A = none → cap = 0) (hN : Nums .u8 w2 w2.heap.size A bs) (hcap : m ≤ cap) (hg : Grow w w2)
    (ho : ∀ a, A = some a → w.heap.size ≤ a.block ∧ a.block < w2.heap.size) :
    Opened t (openS bs n) w (.returned (.pointer (some ⟨w2.heap.size, 0, none⟩))) (w2.alloc (.cells #[.slice A m cap, .int .i64 P, .int .i64 0, .int .i64 0, .int .i64 0] t)) := by
  subst hm hP
  refine ⟨w2.heap.size, rfl, hg.size, by simp, hg.trans (grow_new _ _), fun S hS hk => ⟨hS, A, cap, heap_alloc_new w2 _, hA, hcap, (hN.grow (grow_new _ _)), fun a ha hs => ?_⟩⟩
  have h1 := ho a ha
  have h2 := hk a.block hs
  simp at h2
  omega

set_option maxRecDepth 10000 in
set_option maxHeartbeats 800000 in
theorem open_any (A : Option Addr) (m cap : Nat) (bs : List Int) (n : Int) (w : World) (hm : bs.length = m) (hl : m ≤ 1000000) (hc : A = none → cap = 0) (hr : Nums .u8 w w.heap.size A bs) :
    Calls Try.prog 16 #[.slice A m cap, .int .i64 n] w (Opened 44 (openS bs n) w) := by
  have HM := Lib.hid hm
  have HR := Lib.hid hr
  clear hm hr
  obtain ⟨P, hP⟩ : ∃ P, clampS n = P := ⟨_, rfl⟩
  have HP := Lib.hid hP
  have hcase : (n < 0 ∧ P = 0) ∨ (0 ≤ n ∧ n ≤ 1099511627776 ∧ P = n) ∨ (1099511627776 < n ∧ P = 1099511627776) := by unfold clampS at hP; omega
  clear hP
  rcases hcase with ⟨h1, rfl⟩ | ⟨h1, h2, rfl⟩ | ⟨h1, rfl⟩
  all_goals
    go_enter Try.func16, Try.ntmps16
    go_wp2_with (at_builtin; refine wpList_append_bytes rfl _ _ rfl w.heap.size _ 0 m cap [] bs A _ rfl (World.ownsRow_nil _ _ _ _) rfl HM.out.symm hc HR.out (by omega) (Nat.le_refl _) ?_; intro v2 w2 hown2 hb2; (obtain ⟨A3, c3, rfl, hA3, hN3, hcap, hbs, hoff⟩ := own_open hown2 (Grow.refl w) hb2); have HN3 := Lib.hid hN3; have HB2 := Lib.hid hbs; have HF := Lib.hid hoff; clear hown2 hb2 hN3 hbs hoff)
    go_ret
    exact new_cursor HM.out HP.out hA3 HN3.out hcap HB2.out HF.out

set_option maxRecDepth 10000 in
set_option maxHeartbeats 800000 in
theorem ropen_any (A : Option Addr) (m cap : Nat) (bs : List Int) (n : Int) (w : World) (hm : bs.length = m) (hl : m ≤ 1000000) (hc : A = none → cap = 0) (hr : Nums .u8 w w.heap.size A bs) :
    Calls Try.prog 29 #[.slice A m cap, .int .i64 n] w (Opened 63 (openS bs n) w) := by
  have HM := Lib.hid hm
  have HR := Lib.hid (hr.grow (grow_new w (.cells #[] 5)))
  have HE := Lib.hid (own_empty w)
  clear hm hr
  obtain ⟨P, hP⟩ : ∃ P, clampS n = P := ⟨_, rfl⟩
  have HP := Lib.hid hP
  have hcase : (n < 0 ∧ P = 0) ∨ (0 ≤ n ∧ n ≤ 1099511627776 ∧ P = n) ∨ (1099511627776 < n ∧ P = 1099511627776) := by unfold clampS at hP; omega
  clear hP
  rcases hcase with ⟨h1, rfl⟩ | ⟨h1, h2, rfl⟩ | ⟨h1, rfl⟩
  all_goals
    go_enter Try.func29, Try.ntmps29
    go_wp2_with (at_builtin; refine wpList_append_bytes rfl _ _ rfl w.heap.size _ 0 m cap [] bs A _ rfl HE.out rfl HM.out.symm hc HR.out (by omega) (by simp) ?_; intro v2 w2 hown2 hb2; (obtain ⟨A3, c3, rfl, hA3, hN3, hcap, hbs, hoff⟩ := own_open hown2 (grow_new _ _) hb2); have HN3 := Lib.hid hN3; have HB2 := Lib.hid hbs; have HF := Lib.hid hoff; clear hown2 hb2 hN3 hbs hoff)
    go_ret
    exact new_cursor HM.out HP.out hA3 HN3.out hcap HB2.out HF.out
end Go.Proofs.Ytoapfegmipopkaa
