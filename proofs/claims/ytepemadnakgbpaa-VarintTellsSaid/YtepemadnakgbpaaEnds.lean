/-
  The law VarintEnds at every input.
-/
import Derived.Test.YtepemadnakgbpaaJoin
import Derived.OpenShut
namespace Go.Proofs.Ytepemadnakgbpaa
open Go.RowKit

theorem block_lt {w : World} {a : Addr} {v : Value} (h : w.cell? a = some v) : a.block < w.heap.size := by
  rcases Nat.lt_or_ge a.block w.heap.size with hlt | hge
  · exact hlt
  · simp [World.cell?, Array.getElem?_eq_none hge] at h

/-- what a slice of numbers that came in reads as -/
theorem nums_of_row {k : IntKind} {w : World} {a : Option Addr} {len cap : Nat} {zs : List Int}
    (h : (a = none ∧ len = 0 ∧ cap = 0 ∧ zs = []) ∨
      ∃ x, a = some x ∧ len ≤ cap ∧ cap ≤ maxLen ∧ zs.length = cap ∧ (∀ i, i < zs.length → w.cell? (x.add i) = some (.int k (zs.getD i 0))) ∧ ∀ n ∈ zs, (Lit.int k n).wf = true) :
    ∃ xs : List Int, xs.length = len ∧ len ≤ 9223372036854775807 ∧ Nums k w w.heap.size a xs ∧ (∀ n ∈ xs, (Lit.int k n).wf = true) ∧ len ≤ cap ∧ (a = none → cap = 0) := by
  rcases h with ⟨rfl, rfl, rfl, rfl⟩ | ⟨x, rfl, hl, hm, hz, hcell, hwf⟩
  · exact ⟨[], rfl, Nat.zero_le _, Nums.none_, by simp, Nat.le_refl _, fun _ => rfl⟩
  · refine ⟨zs.take len, by simp; omega, Nat.le_trans hl hm, fun hp => ?_, fun n hn => hwf n (List.mem_of_mem_take hn), hl, by simp⟩
    have hp' : 0 < zs.length := by simp at hp; omega
    have h0 := hcell 0 hp'
    obtain ⟨b, off, spot⟩ := x
    have hspot : spot = none := by simpa [Addr.add] using World.cell?_spot h0
    subst hspot
    refine ⟨b, off, rfl, by simpa [Addr.add] using block_lt h0, fun i hi => ?_⟩
    have hi1 : i < len ∧ i < zs.length := by simp at hi; omega
    have hc := hcell i hi1.2
    have e : (⟨b, off, none⟩ : Addr).add i = ⟨b, off + i, none⟩ := by unfold Addr.add; split <;> simp_all
    rw [e] at hc
    rw [hc]
    simp [hi1.1]
theorem byt_of {xs : List Int} (h : ∀ n ∈ xs, (Lit.int .u8 n).wf = true) : Byt xs := fun n hn => by
  have := bounds_u8 (h n hn)
  omega
theorem u64_of {xs : List Int} (h : ∀ n ∈ xs, (Lit.int .u64 n).wf = true) : U64 xs := fun n hn => by
  have := bounds_u64 (h n hn)
  omega

set_option maxRecDepth 10000 in
set_option maxHeartbeats 800000 in
theorem ends_no (A1 A2 : Option Addr) (n m c1 c2 : Nat) (w : World) (h1 : n ≤ 9223372036854775807) (h2 : m ≤ 9223372036854775807) (h : ¬ (n ≤ 500 ∧ m ≤ 500)) :
    Calls Try.prog 6 #[.slice A1 n c1, .slice A2 m c2] w (Fine w) := by
  by_cases hn : n ≤ 500
  · have hm : 500 < m := by omega
    clear h
    go_enter Try.func6, Try.ntmps6
    go_wp2_with fail
    refine (small_any w).mono ?_
    rintro e w1 ⟨rfl, hb1⟩
    go_wp2
    go_ret
    exact ⟨rfl, hb1⟩
  · have hn' : 500 < n := by omega
    clear h hn
    go_enter Try.func6, Try.ntmps6
    go_wp2_with fail
    refine (small_any w).mono ?_
    rintro e w1 ⟨rfl, hb1⟩
    go_wp2
    go_ret
    exact ⟨rfl, hb1⟩

theorem ends_tests (bs ms : List Int) : ((takeN bs).2.2 = 2 ∧ bs.length < 10) ∨ ((takeN bs).2.2 ≠ 2 ∧ takeN (bs ++ ms) = takeN bs) := by
  by_cases h : (takeN bs).2.2 = 2
  · exact .inl ⟨h, by have := take_short bs 0 0 (by omega) h; omega⟩
  · exact .inr ⟨h, take_more ms bs 0 0 h⟩

theorem take_is (A : Option Addr) (n cap : Nat) (bs : List Int) (x k e0 : Nat) (w : World) (B : Nat) (hn : n = bs.length) (hl : n ≤ 1000000000000000000) (hb : Byt bs) (hr : Nums .u8 w B A bs) (ht : takeN bs = (x, k, e0)) :
    Calls Try.prog 10 #[.slice A n cap] w fun e w' => e = .returned (.tuple #[.int .u64 (x : Nat), .int .i64 (k : Nat), .int .i64 (e0 : Nat)]) ∧ w' = w := by
  subst hn
  have h := take_any A cap bs w B hl hb hr
  rw [ht] at h
  exact h

set_option maxRecDepth 10000 in
set_option maxHeartbeats 1600000 in
theorem ends_yes (A1 A2 : Option Addr) (n m c1 c2 : Nat) (bs ms : List Int) (w : World) (h1 : bs.length = n) (h2 : ms.length = m) (hn : n ≤ 500) (hm : m ≤ 500) (e1 : A1 = none → c1 = 0) (e2 : A2 = none → c2 = 0)
    (b1 : Byt bs) (b2 : Byt ms) (r1 : Nums .u8 w w.heap.size A1 bs) (r2 : Nums .u8 w w.heap.size A2 ms) : Calls Try.prog 6 #[.slice A1 n c1, .slice A2 m c2] w (Fine w) := by
  have HT := Lib.hid (ends_tests bs ms)
  have H1 := Lib.hid h1
  have H2 := Lib.hid h2
  have R1 := Lib.hid r1
  have R2 := Lib.hid r2
  have B1 := Lib.hid b1
  have B2 := Lib.hid b2
  clear h1 h2 r1 r2 b1 b2
  go_enter Try.func6, Try.ntmps6
  go_wp2_with fail
  refine (small_any w).mono ?_
  rintro e w1 ⟨rfl, hb1⟩
  have R1' := Lib.hid (R1.out.grow hb1)
  have R2' := Lib.hid (R2.out.grow hb1)
  clear R1 R2
  obtain ⟨x, k, e0, ht⟩ : ∃ x k e0, takeN bs = (x, k, e0) := ⟨_, _, _, rfl⟩
  obtain ⟨y, j, f0, hu⟩ : ∃ x k e0, takeN (bs ++ ms) = (x, k, e0) := ⟨_, _, _, rfl⟩
  have hfit := takeN_fits bs B1.out
  have hfit2 := takeN_fits (bs ++ ms) (B1.out.app B2.out)
  rw [ht] at hfit HT
  rw [hu] at hfit2 HT
  have HT1 := Lib.hid ht
  have HT2 := Lib.hid hu
  clear ht hu
  simp only [Prod.mk.injEq] at hfit hfit2 HT
  go_wp2_with fail
  refine (take_is A1 n c1 bs x k e0 w1 _ H1.out.symm (by omega) B1.out R1'.out HT1.out).mono ?_
  rintro e w' ⟨rfl, rfl⟩
  have HE := Lib.hid (own_empty w')
  have hbn := grow_new w' (.cells #[] 5)
  go_wp2_with (at_builtin; first
    | refine wpList_append_bytes rfl _ _ rfl w'.heap.size _ 0 n c1 [] bs A1 _ rfl HE.out rfl H1.out.symm e1 (R1'.out.below hbn) (by omega) (by simp) ?_; intro v2 w2 hown2 hb2; rw [Nat.zero_add, List.nil_append] at hown2; have HO2 := Lib.hid hown2; have HB2 := Lib.hid (Below.trans hbn hb2); clear hown2 hb2
    | refine wpList_append_bytes rfl _ _ rfl w'.heap.size v2 n m c2 bs ms A2 _ rfl HO2.out rfl H2.out.symm e2 (R2'.out.below HB2.out) (by omega) HB2.out.size ?_; intro v3 w3 hown3 hb3; have HO3 := Lib.hid hown3; have HB3 := Lib.hid (Below.trans HB2.out hb3); clear hown3 hb3)
  obtain ⟨A3, c3, rfl, hA3, hN3, hl3⟩ := own_nums HO3.out
  refine (take_is A3 (n + m) c3 (bs ++ ms) y j f0 w3 _ hl3.symm (by omega) (B1.out.app B2.out) hN3 HT2.out).mono ?_
  rintro e w4 ⟨rfl, rfl⟩
  have HG : Grow w w4 := hb1.trans HB3.out
  have HL := H1.out
  clear hN3 hA3 hl3 HO3 HO2 HE HB2 HB3 hbn HT1 HT2 B1 B2 R1' R2' H1 H2
  rcases HT.out with ⟨h2, h10⟩ | ⟨h2, rfl, rfl, rfl⟩
  · subst h2
    have h10' : decide ((n : Int) < 10) = true := by simp; omega
    clear HT HL h10
    go_wp2
    go_ret
    exact ⟨rfl, HG⟩
  · clear HT HL
    have t1 : ((f0 : Int) == 2) = false := by simp; omega
    have t2 : ((f0 : Int) != 2) = true := by simp; omega
    go_wp2
    go_ret
    exact ⟨rfl, HG⟩

theorem ends_walk (A1 A2 : Option Addr) (n m c1 c2 : Nat) (bs ms : List Int) (w : World) (h1 : bs.length = n) (h2 : ms.length = m) (hn : n ≤ 9223372036854775807) (hm : m ≤ 9223372036854775807) (e1 : A1 = none → c1 = 0) (e2 : A2 = none → c2 = 0)
    (b1 : Byt bs) (b2 : Byt ms) (r1 : Nums .u8 w w.heap.size A1 bs) (r2 : Nums .u8 w w.heap.size A2 ms) : Calls Try.prog 6 #[.slice A1 n c1, .slice A2 m c2] w (Fine w) := by
  by_cases h : n ≤ 500 ∧ m ≤ 500
  · exact ends_yes A1 A2 n m c1 c2 bs ms w h1 h2 h.1 h.2 e1 e2 b1 b2 r1 r2
  · exact ends_no A1 A2 n m c1 c2 w hn hm h
end Go.Proofs.Ytepemadnakgbpaa
