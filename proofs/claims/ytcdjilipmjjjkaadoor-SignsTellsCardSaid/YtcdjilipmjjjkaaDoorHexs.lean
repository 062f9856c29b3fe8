/-
  What strconv.FormatInt comes to at base sixteen, and strings.ToUpper of it.
-/
import Derived.Test.YtcdjilipmjjjkaaDoorRights
import Derived.Laws.BitsAllLaws
import Derived.Laws.Tables
namespace Go.Proofs.YtcdjilipmjjjkaaDoor
open Go.RowKit Go.Lib
set_option maxRecDepth 10000

/-- a small digit of base 16 -/
def hexLow (d : Nat) : UInt8 := if d < 10 then UInt8.ofNat (48 + d) else UInt8.ofNat (87 + d)
def hexLF : Nat → Nat → List UInt8
  | 0, _ => []
  | k + 1, n => if n < 16 then [hexLow n] else hexLF k (n / 16) ++ [hexLow (n % 16)]
def hexL (n : Nat) : List UInt8 := hexLF (n + 1) n
theorem hexLF_enough : ∀ (k n : Nat), n < k → hexLF k n = hexLF (n + 1) n
  | 0, n, h => by omega
  | k + 1, n, h => by
    show (if n < 16 then _ else _) = (if n < 16 then _ else _)
    by_cases hn : n < 16
    · rw [if_pos hn, if_pos hn]
    · rw [if_neg hn, if_neg hn, hexLF_enough k (n / 16) (by omega), hexLF_enough n (n / 16) (by omega)]
theorem hexL_small {n : Nat} (h : n < 16) : hexL n = [hexLow n] := by
  show (if n < 16 then _ else _) = _
  rw [if_pos h]
theorem hexL_big {n : Nat} (h : ¬ n < 16) : hexL n = hexL (n / 16) ++ [hexLow (n % 16)] := by
  show (if n < 16 then _ else _) = _
  rw [if_neg h, hexLF_enough n (n / 16) (by omega)]
  rfl
theorem hexLow_nat {d : Nat} (h : d < 16) : (hexLow d).toNat = if d < 10 then 48 + d else 87 + d := by
  unfold hexLow
  split
  · exact u8_nat (by omega)
  · exact u8_nat (by omega)
theorem upper_low : ∀ d : Fin 16, upperB (hexLow d) = hexDig d := by decide
theorem upper_hex (c : Nat) : toUpperA (hexL c) = hexD c := by
  induction c using Nat.strongRecOn with
  | _ c ih =>
    by_cases hc : c < 16
    · rw [hexL_small hc, hex_small hc]
      show [upperB (hexLow c)] = _
      rw [upper_low ⟨c, hc⟩]
    · rw [hexL_big hc, hex_big hc, ← ih (c / 16) (by omega)]
      unfold toUpperA
      rw [List.map_append]
      show _ ++ [upperB (hexLow (c % 16))] = _
      rw [upper_low ⟨c % 16, by omega⟩]
theorem low_ascii (c : Nat) : ∀ b ∈ hexL c, b.toNat < 128 := by
  induction c using Nat.strongRecOn with
  | _ c ih =>
    by_cases hc : c < 16
    · rw [hexL_small hc]
      intro b hb
      rw [List.mem_singleton.1 hb, hexLow_nat hc]
      split <;> omega
    · rw [hexL_big hc]
      intro b hb
      rcases List.mem_append.1 hb with hb | hb
      · exact ih (c / 16) (by omega) b hb
      · rw [List.mem_singleton.1 hb, hexLow_nat (by omega)]
        split <;> omega
theorem low_len (c : Nat) : (hexL c).length = (hexD c).length := by
  rw [← upper_hex]
  simp [toUpperA]

def lowTab : ByteArray := ⟨#[48, 49, 50, 51, 52, 53, 54, 55, 56, 57, 97, 98, 99, 100, 101, 102, 103, 104, 105, 106, 107, 108, 109, 110, 111, 112, 113, 114, 115, 116, 117, 118, 119, 120, 121, 122]⟩
theorem lowTab_at : ∀ d : Fin 16, lowTab[d.val]? = some (hexLow d) := by decide
theorem index_low {d : Nat} (hd : d < 16) (W : World) : (Instr.index 9 (.string lowTab) (.int .u64 (d : Nat))).run Tryd.prog W = .ok (.int .u8 ((hexLow d).toNat : Nat)) W := by
  have hu : Tryd.prog.underlying 9 = some .string := by kernel_rfl
  have h := lowTab_at ⟨d, hd⟩
  simp only at h
  simp only [Instr.index, asIntOf, Sem.run_bind, Sem.run_pure, Result.andThen_ok, run_underlying hu]
  rw [if_pos (by omega), Int.toNat_natCast, h]
  rfl
theorem and_low (u : Nat) (hu : u < 18446744073709551616) : bits .and .u64 (u : Int) 15 = ((u % 16 : Nat) : Int) := by
  rw [show (15 : Int) = ((15 : Nat) : Int) from rfl, u64_and_nat _ _ hu (by omega), show u &&& 15 = u % 16 from Nat.and_two_pow_sub_one_eq_mod u 4]

def zs81 : Array Value := Array.replicate 65 (.int .u8 0)
theorem info81 : (Tryd.prog.info? 81).map (fun i => (i.zero, i.size, i.bytes)) = some (some (.agg zs81), 65, 65) := by kernel_rfl
theorem zero81 (w : World) : (zeroValue 81).run Tryd.prog w = .ok (.agg zs81) w := by
  obtain ⟨i, hi, h0, _, _⟩ := info_parts info81
  simp [zeroValue, typeInfo, hi, h0]
theorem zs81_size : zs81.size = 65 := by simp [zs81]

/-- the row of sixty-five, of which the last hold q -/
def rowF (i : Nat) (q : List UInt8) (j : Nat) : Value := .int .u8 ((if j < i then 0 else (q.getD (j - i) 0).toNat : Nat) : Int)

theorem power_any (w : World) : Calls Tryd.prog 62 #[.int .i64 16] w fun e w' => e = .returned (.bool true) ∧ w' = w := by
  go_enter Tryd.func62, Tryd.ntmps62
  go_wp2
  go_ret
  exact ⟨rfl, rfl⟩
theorem zeros64_any (w : World) (hL : Laid w) : Calls Tryd.prog 67 #[.int .u64 16] w fun e w' => e = .returned (.int .i64 4) ∧ w' = w := by
  have hb : w.cell? ⟨7, 15, none⟩ = some (.int .u8 4) := hL.bit.2
  have h1 : IntKind.u64.wrap (-16) = 18446744073709551600 := by rw [IntKind.wrap_u64]; omega
  have h2 : bits .and .u64 16 18446744073709551600 = 16 := by rw [show (16 : Int) = ((16 : Nat) : Int) from rfl, show (18446744073709551600 : Int) = ((18446744073709551600 : Nat) : Int) from rfl, u64_and_nat _ _ (by omega) (by omega)]; rfl
  have h3 : IntKind.u64.wrap (16 * 285870213051353865) = 4573923408821661840 := by rw [IntKind.wrap_u64]; omega
  have h4 : IntKind.u64.wrap 4573923408821661840 = 4573923408821661840 := by rw [IntKind.wrap_u64]; omega
  go_enter Tryd.func67, Tryd.ntmps67
  go_wp2
  go_ret
  exact ⟨rfl, rfl⟩
theorem zeros_any (w : World) (hL : Laid w) : Calls Tryd.prog 63 #[.int .u64 16] w fun e w' => e = .returned (.int .i64 4) ∧ w' = w := by
  have HZ := Lib.hid (zeros64_any w hL)
  clear hL
  go_enter Tryd.func63, Tryd.ntmps63
  go_wp2_with fail
  refine (HZ.out).mono ?_
  rintro e w' ⟨rfl, rfl⟩
  go_wp2
  go_ret
  exact ⟨rfl, rfl⟩
end Go.Proofs.YtcdjilipmjjjkaaDoor
