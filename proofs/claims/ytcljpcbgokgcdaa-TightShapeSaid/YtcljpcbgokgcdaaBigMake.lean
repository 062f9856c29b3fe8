/-
  What tight.Make comes to, called with any nodes, of whatever size.
-/
import Derived.Test.YtcljpcbgokgcdaaBigRight
import Derived.Test.YtcljpcbgokgcdaaMake
namespace Go.Proofs.Ytcljpcbgokgcdaa
open Go.RowKit Go.Lib
set_option linter.unusedSimpArgs false
set_option linter.unusedVariables false

/-- a right array is never too great to be gone over -/
theorem right_fine {w : World} {a : Option Addr} {len cap : Nat} {ns : List Nd} (h : IsNodes w a len cap ns) (hr : rightA ns = true) : Fine ns ∧ (ws ns).i ≤ 1099999 := by
  obtain ⟨s, hs⟩ := right_some hr
  obtain ⟨hp, hi, hn⟩ := whl_some hs
  have h1 := par_tot hp
  have hok := par_ok hp
  rw [hn, List.take_length] at hok
  refine ⟨⟨by omega, fun n hn => ?_, fun n hn => (h.2.2.2.2 n hn).2.2.2.2.2⟩, by rw [ws_some hs]; omega⟩
  have hf := h.2.2.2.2 n hn
  have ho := hok n hn
  have hrk := ok_rank ho
  have hc := cnt_le1 n.shp
  have hl : n.ints.length + n.decs.length ≤ 1048576 := by rcases ok_tot ho with ⟨_, h, _⟩ | ⟨_, h, _⟩ <;> omega
  exact ⟨hf.1, by omega, by omega, by omega, hf.2.2.2.2.1⟩

set_option maxRecDepth 10000 in
set_option maxHeartbeats 1600000 in
theorem makeB_any (A : Option Addr) (n c : Nat) (ns : List Nd) (W w : World) (hin : IsNodes W A n c ns) (hg0 : Grow W w) :
    Calls Try.prog 11 #[.slice A n c] w (MakeP ns w) := by
  cases hr : rightA ns with
  | true =>
    obtain ⟨h1, h2⟩ := right_fine hin hr
    exact make_any A n c ns w hin.1 hin.2.1 h1 h2 (hin.2.2.2.1.grow hg0)
  | false =>
    have hnb : n ≤ 9223372036854775807 := Nat.le_trans hin.2.1 hin.2.2.1
    have HC := Lib.hid (arightB_any A n c ns w hin.1 hnb (fun n hn => (hin.2.2.2.2 n hn).big) (hin.2.2.2.1.grow hg0))
    rw [hr] at HC
    have HF : Hid (Calls Try.prog 27 #[.slice A n c] w (fun e w' => e = .returned (.tuple #[.slice none 0 0, .bool false]) ∧ Grow w w')) := Lib.hid (by
      clear hin hg0
      go_enter Try.func27, Try.ntmps27
      go_wp2_with fail
      refine (HC.out).mono ?_
      rintro e w2 ⟨rfl, hg⟩
      have HG := Lib.hid hg
      clear hg HC
      go_wp2
      go_ret2
      exact ⟨rfl, HG.out⟩)
    have HR := Lib.hid hr
    clear hin hg0 HC hr
    go_enter Try.func11, Try.ntmps11
    go_wp2_with fail
    refine (HF.out).mono ?_
    rintro e w2 ⟨rfl, hg⟩
    have HG := Lib.hid hg
    clear hg HF
    go_wp2
    go_ret2
    exact ⟨HG.out, .inl ⟨HR.out, rfl⟩⟩
end Go.Proofs.Ytcljpcbgokgcdaa
