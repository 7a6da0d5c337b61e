/- Plain facts on the words of instructions: the tables of the program, what the layer's calls say in numbers. Nothing is walked here. -/
import Derived.Test.YtcghekkhbiomgaaGreatDoorImmPut
import Derived.Handy
import Derived.Deep.Light
namespace Go.Proofs.YtcghekkhbiomgaaGreatDoor
open Go.RowKit
set_option linter.unusedVariables false
set_option maxRecDepth 100000

def wordsL : List Int := [0, 55, 23, 111, 103, 99, 4195, 16483, 20579, 24675, 28771, 3, 4099, 8195, 12291, 16387, 20483, 24579, 35, 4131, 8227, 12323, 19, 8211, 12307, 16403, 24595, 28691, 4115, 20499, 1073762323, 51, 1073741875, 4147, 8243, 12339, 16435, 20531, 1073762355, 24627, 28723, 27, 4123, 20507, 1073762331, 59, 1073741883, 4155, 20539, 1073762363, 33554483, 33558579, 33562675, 33566771, 33570867, 33574963, 33579059, 33583155, 33554491, 33570875, 33574971, 33579067, 33583163, 15, 115, 1048691]
def namesL : List (List UInt8) := [[], [108, 117, 105], [97, 117, 105, 112, 99], [106, 97, 108], [106, 97, 108, 114], [98, 101, 113], [98, 110, 101], [98, 108, 116], [98, 103, 101], [98, 108, 116, 117], [98, 103, 101, 117], [108, 98], [108, 104], [108, 119], [108, 100], [108, 98, 117], [108, 104, 117], [108, 119, 117], [115, 98], [115, 104], [115, 119], [115, 100], [97, 100, 100, 105], [115, 108, 116, 105], [115, 108, 116, 105, 117], [120, 111, 114, 105], [111, 114, 105], [97, 110, 100, 105], [115, 108, 108, 105], [115, 114, 108, 105], [115, 114, 97, 105], [97, 100, 100], [115, 117, 98], [115, 108, 108], [115, 108, 116], [115, 108, 116, 117], [120, 111, 114], [115, 114, 108], [115, 114, 97], [111, 114], [97, 110, 100], [97, 100, 100, 105, 119], [115, 108, 108, 105, 119], [115, 114, 108, 105, 119], [115, 114, 97, 105, 119], [97, 100, 100, 119], [115, 117, 98, 119], [115, 108, 108, 119], [115, 114, 108, 119], [115, 114, 97, 119], [109, 117, 108], [109, 117, 108, 104], [109, 117, 108, 104, 115, 117], [109, 117, 108, 104, 117], [100, 105, 118], [100, 105, 118, 117], [114, 101, 109], [114, 101, 109, 117], [109, 117, 108, 119], [100, 105, 118, 119], [100, 105, 118, 117, 119], [114, 101, 109, 119], [114, 101, 109, 117, 119], [102, 101, 110, 99, 101], [101, 99, 97, 108, 108], [101, 98, 114, 101, 97, 107]]

/-- The word, the name in the tables at a place. -/
def wd (k : Nat) : Int := wordsL.getD k 0
def nm (k : Nat) : ByteArray := ⟨(namesL.getD k []).toArray⟩

/-- A word's opcode, its funct3. -/
def cd (x : Int) : Int := x / 2 ^ 0 % 2 ^ 7
def f3 (x : Int) : Int := x / 2 ^ 12 % 2 ^ 3
theorem cd_is (x : Int) : cd x = x % 128 := by unfold cd; simp
theorem f3_is (x : Int) : f3 x = x / 4096 % 8 := by unfold f3; simp

/-- The form of an opcode. -/
def fmc (c : Int) : Int :=
  if c = 51 ∨ c = 59 then 0 else if c = 103 ∨ c = 3 ∨ c = 19 ∨ c = 27 then 1 else if c = 35 then 2 else if c = 99 then 3 else if c = 55 ∨ c = 23 then 4 else if c = 111 then 5 else 6
/-- How many bits say how far. -/
def shb (x : Int) : Int :=
  if f3 x ≠ 1 ∧ f3 x ≠ 5 then 0 else if cd x = 19 then 6 else if cd x = 27 then 5 else 0
def upp (x : Int) : Int :=
  if shb x = 6 then x / 67108864 else if shb x = 5 then x / 33554432 else if fmc (cd x) = 0 then x / 33554432 else 0
def ke2 (x : Int) : Int := if cd x = 55 ∨ cd x = 23 ∨ cd x = 111 ∨ cd x = 115 then 0 else f3 x
def ke3 (x : Int) : Int := if cd x = 55 ∨ cd x = 23 ∨ cd x = 111 then 0 else if cd x = 115 then x / 128 else upp x

/-- The word is one of the operation's. -/
def Mt (k : Nat) (x : Int) : Prop := cd (wd k) = cd x ∧ ke2 (wd k) = ke2 x ∧ ke3 (wd k) = ke3 x
instance (k : Nat) (x : Int) : Decidable (Mt k x) := by unfold Mt; infer_instance

def knw (op : Int) : Bool := decide (0 < op) && decide (op < 66)
def fmo (op : Int) : Int := if knw op = true then fmc (cd (wd op.toNat)) else 6
def nmo (op : Int) : ByteArray := if knw op = true then nm op.toNat else ⟨#[]⟩
def hasD (f : Int) : Bool := decide (f = 0 ∨ f = 1 ∨ f = 4 ∨ f = 5)
def has1 (f : Int) : Bool := decide (f = 0 ∨ f = 1 ∨ f = 2 ∨ f = 3)
def has2 (f : Int) : Bool := decide (f = 0 ∨ f = 2 ∨ f = 3)
def isr (r : Int) : Bool := decide (0 ≤ r) && decide (r < 32)

theorem cd_bd (x : Int) : 0 ≤ cd x ∧ cd x ≤ 127 := by rw [cd_is]; omega
theorem f3_bd (x : Int) : 0 ≤ f3 x ∧ f3 x ≤ 7 := by rw [f3_is]; omega
theorem shb_cases (x : Int) : shb x = 0 ∨ shb x = 5 ∨ shb x = 6 := by unfold shb; split <;> (try split) <;> (try split) <;> simp
theorem upp_bd {x : Int} (h0 : 0 ≤ x) (h1 : x ≤ 4294967295) : 0 ≤ upp x ∧ upp x ≤ 127 := by unfold upp; split <;> (try split) <;> (try split) <;> omega
theorem ke2_bd (x : Int) : 0 ≤ ke2 x ∧ ke2 x ≤ 7 := by
  have := f3_bd x
  unfold ke2; split <;> omega
theorem ke3_bd {x : Int} (h0 : 0 ≤ x) (h1 : x ≤ 4294967295) : 0 ≤ ke3 x ∧ ke3 x ≤ 33554431 := by
  have := upp_bd h0 h1
  unfold ke3; split <;> (try split) <;> omega
theorem fmc_bd (c : Int) : 0 ≤ fmc c ∧ fmc c ≤ 6 := by unfold fmc; repeat' split
                                                       all_goals omega
theorem wd_all : ∀ k, k < 66 → 0 ≤ wd k ∧ wd k ≤ 4294967295 := by decide +kernel
theorem wd_bd (k : Nat) : 0 ≤ wd k ∧ wd k ≤ 4294967295 := by
  by_cases h : k < 66
  · exact wd_all k h
  · have : wd k = 0 := by
      have hl : wordsL.length = 66 := by decide
      unfold wd
      rw [List.getD_eq_getElem?_getD, List.getElem?_eq_none (by omega)]
      rfl
    omega

end Go.Proofs.YtcghekkhbiomgaaGreatDoor
