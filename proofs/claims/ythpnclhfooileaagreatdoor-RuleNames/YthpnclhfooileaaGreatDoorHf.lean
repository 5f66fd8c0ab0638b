/- Package rule: each operation of the drawn region of operators, by itself. Made by a program. -/
import Derived.Test.YthpnclhfooileaaGreatDoorHe
namespace Go.Proofs.YthpnclhfooileaaGreatDoor.ru
open Go.RowKit

theorem vl12 (n : Nat) : val n 12 = .agg #[.string ⟨#[65, 110, 100]⟩, .nilFunc, .nilFunc, .bool false] := by kernel_rfl
theorem vl13 (n : Nat) : val n 13 = .agg #[.string ⟨#[79, 114]⟩, .nilFunc, .nilFunc, .bool false] := by kernel_rfl
theorem vl14 (n : Nat) : val n 14 = .agg #[.string ⟨#[78, 111, 116]⟩, .nilFunc, .nilFunc, .bool false] := by kernel_rfl
theorem vl15 (n : Nat) : val n 15 = .pointer (some ⟨n + 1, 0, none⟩) := by kernel_rfl
theorem vl16 (n : Nat) : val n 16 = okF n := by kernel_rfl
theorem vl17 (n : Nat) : val n 17 = kindV (okF n) 23 := by kernel_rfl
theorem vl18 (n : Nat) : val n 18 = bound 28 (kindV (okF n) 23) := by kernel_rfl
theorem vl19 (n : Nat) : val n 19 = .agg #[.string ⟨#[83, 116, 114, 105, 110, 103, 69, 113, 117, 97, 108, 115]⟩, okF n, bound 28 (kindV (okF n) 23), .bool false] := by kernel_rfl
theorem vl20 (n : Nat) : val n 20 = .pointer (some ⟨n + 1, 0, none⟩) := by kernel_rfl
theorem vl21 (n : Nat) : val n 21 = okF n := by kernel_rfl
theorem vl22 (n : Nat) : val n 22 = kindV (okF n) 23 := by kernel_rfl
theorem vl23 (n : Nat) : val n 23 = bound 28 (kindV (okF n) 23) := by kernel_rfl
theorem vl24 (n : Nat) : val n 24 = .agg #[.string ⟨#[83, 116, 114, 105, 110, 103, 69, 113, 117, 97, 108, 115, 80, 97, 116, 104]⟩, okF n, bound 28 (kindV (okF n) 23), .bool true] := by kernel_rfl
theorem vl25 (n : Nat) : val n 25 = .pointer (some ⟨n + 1, 0, none⟩) := by kernel_rfl
theorem vl26 (n : Nat) : val n 26 = okF n := by kernel_rfl
theorem vl27 (n : Nat) : val n 27 = kindV (okF n) 23 := by kernel_rfl
theorem vl28 (n : Nat) : val n 28 = bound 29 (kindV (okF n) 23) := by kernel_rfl
theorem vl29 (n : Nat) : val n 29 = .agg #[.string ⟨#[83, 116, 114, 105, 110, 103, 76, 101, 115, 115, 84, 104, 97, 110]⟩, okF n, bound 29 (kindV (okF n) 23), .bool false] := by kernel_rfl
theorem vl30 (n : Nat) : val n 30 = .pointer (some ⟨n + 1, 0, none⟩) := by kernel_rfl
theorem vl31 (n : Nat) : val n 31 = okF n := by kernel_rfl
theorem vl32 (n : Nat) : val n 32 = kindV (okF n) 23 := by kernel_rfl
theorem vl33 (n : Nat) : val n 33 = bound 29 (kindV (okF n) 23) := by kernel_rfl
theorem vl34 (n : Nat) : val n 34 = .agg #[.string ⟨#[83, 116, 114, 105, 110, 103, 76, 101, 115, 115, 84, 104, 97, 110, 80, 97, 116, 104]⟩, okF n, bound 29 (kindV (okF n) 23), .bool true] := by kernel_rfl
theorem vl35 (n : Nat) : val n 35 = .pointer (some ⟨n + 1, 0, none⟩) := by kernel_rfl
theorem vl36 (n : Nat) : val n 36 = okF n := by kernel_rfl
theorem vl37 (n : Nat) : val n 37 = kindV (okF n) 23 := by kernel_rfl
theorem vl38 (n : Nat) : val n 38 = bound 30 (kindV (okF n) 23) := by kernel_rfl
theorem vl39 (n : Nat) : val n 39 = .agg #[.string ⟨#[83, 116, 114, 105, 110, 103, 71, 114, 101, 97, 116, 101, 114, 84, 104, 97, 110]⟩, okF n, bound 30 (kindV (okF n) 23), .bool false] := by kernel_rfl
theorem vl40 (n : Nat) : val n 40 = .pointer (some ⟨n + 1, 0, none⟩) := by kernel_rfl
theorem vl41 (n : Nat) : val n 41 = okF n := by kernel_rfl
theorem vl42 (n : Nat) : val n 42 = kindV (okF n) 23 := by kernel_rfl
theorem vl43 (n : Nat) : val n 43 = bound 30 (kindV (okF n) 23) := by kernel_rfl
theorem vl44 (n : Nat) : val n 44 = .agg #[.string ⟨#[83, 116, 114, 105, 110, 103, 71, 114, 101, 97, 116, 101, 114, 84, 104, 97, 110, 80, 97, 116, 104]⟩, okF n, bound 30 (kindV (okF n) 23), .bool true] := by kernel_rfl
theorem vl45 (n : Nat) : val n 45 = .pointer (some ⟨n + 1, 0, none⟩) := by kernel_rfl
theorem vl46 (n : Nat) : val n 46 = okF n := by kernel_rfl
theorem vl47 (n : Nat) : val n 47 = kindV (okF n) 23 := by kernel_rfl
theorem vl48 (n : Nat) : val n 48 = bound 31 (kindV (okF n) 23) := by kernel_rfl
theorem vl49 (n : Nat) : val n 49 = .agg #[.string ⟨#[83, 116, 114, 105, 110, 103, 76, 101, 115, 115, 84, 104, 97, 110, 69, 113, 117, 97, 108, 115]⟩, okF n, bound 31 (kindV (okF n) 23), .bool false] := by kernel_rfl
theorem vl50 (n : Nat) : val n 50 = .pointer (some ⟨n + 1, 0, none⟩) := by kernel_rfl
theorem vl51 (n : Nat) : val n 51 = okF n := by kernel_rfl
theorem vl52 (n : Nat) : val n 52 = kindV (okF n) 23 := by kernel_rfl
theorem vl53 (n : Nat) : val n 53 = bound 31 (kindV (okF n) 23) := by kernel_rfl
theorem vl54 (n : Nat) : val n 54 = .agg #[.string ⟨#[83, 116, 114, 105, 110, 103, 76, 101, 115, 115, 84, 104, 97, 110, 69, 113, 117, 97, 108, 115, 80, 97, 116, 104]⟩, okF n, bound 31 (kindV (okF n) 23), .bool true] := by kernel_rfl
theorem vl55 (n : Nat) : val n 55 = .pointer (some ⟨n + 1, 0, none⟩) := by kernel_rfl
theorem vl56 (n : Nat) : val n 56 = okF n := by kernel_rfl
theorem vl57 (n : Nat) : val n 57 = kindV (okF n) 23 := by kernel_rfl
theorem vl58 (n : Nat) : val n 58 = bound 32 (kindV (okF n) 23) := by kernel_rfl
theorem vl59 (n : Nat) : val n 59 = .agg #[.string ⟨#[83, 116, 114, 105, 110, 103, 71, 114, 101, 97, 116, 101, 114, 84, 104, 97, 110, 69, 113, 117, 97, 108, 115]⟩, okF n, bound 32 (kindV (okF n) 23), .bool false] := by kernel_rfl
theorem vl60 (n : Nat) : val n 60 = .pointer (some ⟨n + 1, 0, none⟩) := by kernel_rfl
theorem vl61 (n : Nat) : val n 61 = okF n := by kernel_rfl
theorem vl62 (n : Nat) : val n 62 = kindV (okF n) 23 := by kernel_rfl
theorem vl63 (n : Nat) : val n 63 = bound 32 (kindV (okF n) 23) := by kernel_rfl
theorem vl64 (n : Nat) : val n 64 = .agg #[.string ⟨#[83, 116, 114, 105, 110, 103, 71, 114, 101, 97, 116, 101, 114, 84, 104, 97, 110, 69, 113, 117, 97, 108, 115, 80, 97, 116, 104]⟩, okF n, bound 32 (kindV (okF n) 23), .bool true] := by kernel_rfl
theorem vl65 (n : Nat) : val n 65 = .pointer (some ⟨n + 1, 0, none⟩) := by kernel_rfl
theorem vl66 (n : Nat) : val n 66 = okF n := by kernel_rfl
theorem vl67 (n : Nat) : val n 67 = .agg #[.string ⟨#[83, 116, 114, 105, 110, 103, 77, 97, 116, 99, 104, 101, 115]⟩, okF n, pl 33, .bool false] := by kernel_rfl
theorem vl68 (n : Nat) : val n 68 = .pointer (some ⟨n + 3, 0, none⟩) := by kernel_rfl
theorem vl69 (n : Nat) : val n 69 = okF (n + 2) := by kernel_rfl
theorem vl70 (n : Nat) : val n 70 = kindV (okF (n + 2)) 24 := by kernel_rfl
theorem vl71 (n : Nat) : val n 71 = bound 28 (kindV (okF (n + 2)) 24) := by kernel_rfl
theorem vl72 (n : Nat) : val n 72 = .agg #[.string ⟨#[78, 117, 109, 101, 114, 105, 99, 69, 113, 117, 97, 108, 115]⟩, okF (n + 2), bound 28 (kindV (okF (n + 2)) 24), .bool false] := by kernel_rfl
theorem vl73 (n : Nat) : val n 73 = .pointer (some ⟨n + 3, 0, none⟩) := by kernel_rfl
theorem vl74 (n : Nat) : val n 74 = okF (n + 2) := by kernel_rfl
theorem vl75 (n : Nat) : val n 75 = kindV (okF (n + 2)) 24 := by kernel_rfl
theorem vl76 (n : Nat) : val n 76 = bound 28 (kindV (okF (n + 2)) 24) := by kernel_rfl
theorem vl77 (n : Nat) : val n 77 = .agg #[.string ⟨#[78, 117, 109, 101, 114, 105, 99, 69, 113, 117, 97, 108, 115, 80, 97, 116, 104]⟩, okF (n + 2), bound 28 (kindV (okF (n + 2)) 24), .bool true] := by kernel_rfl
theorem vl78 (n : Nat) : val n 78 = .pointer (some ⟨n + 3, 0, none⟩) := by kernel_rfl
theorem vl79 (n : Nat) : val n 79 = okF (n + 2) := by kernel_rfl
theorem vl80 (n : Nat) : val n 80 = kindV (okF (n + 2)) 24 := by kernel_rfl
theorem vl81 (n : Nat) : val n 81 = bound 29 (kindV (okF (n + 2)) 24) := by kernel_rfl
theorem vl82 (n : Nat) : val n 82 = .agg #[.string ⟨#[78, 117, 109, 101, 114, 105, 99, 76, 101, 115, 115, 84, 104, 97, 110]⟩, okF (n + 2), bound 29 (kindV (okF (n + 2)) 24), .bool false] := by kernel_rfl
theorem vl83 (n : Nat) : val n 83 = .pointer (some ⟨n + 3, 0, none⟩) := by kernel_rfl
theorem vl84 (n : Nat) : val n 84 = okF (n + 2) := by kernel_rfl
theorem vl85 (n : Nat) : val n 85 = kindV (okF (n + 2)) 24 := by kernel_rfl
theorem vl86 (n : Nat) : val n 86 = bound 29 (kindV (okF (n + 2)) 24) := by kernel_rfl
theorem vl87 (n : Nat) : val n 87 = .agg #[.string ⟨#[78, 117, 109, 101, 114, 105, 99, 76, 101, 115, 115, 84, 104, 97, 110, 80, 97, 116, 104]⟩, okF (n + 2), bound 29 (kindV (okF (n + 2)) 24), .bool true] := by kernel_rfl
theorem vl88 (n : Nat) : val n 88 = .pointer (some ⟨n + 3, 0, none⟩) := by kernel_rfl
theorem vl89 (n : Nat) : val n 89 = okF (n + 2) := by kernel_rfl
theorem vl90 (n : Nat) : val n 90 = kindV (okF (n + 2)) 24 := by kernel_rfl
theorem vl91 (n : Nat) : val n 91 = bound 30 (kindV (okF (n + 2)) 24) := by kernel_rfl
theorem vl92 (n : Nat) : val n 92 = .agg #[.string ⟨#[78, 117, 109, 101, 114, 105, 99, 71, 114, 101, 97, 116, 101, 114, 84, 104, 97, 110]⟩, okF (n + 2), bound 30 (kindV (okF (n + 2)) 24), .bool false] := by kernel_rfl
theorem vl93 (n : Nat) : val n 93 = .pointer (some ⟨n + 3, 0, none⟩) := by kernel_rfl
theorem vl94 (n : Nat) : val n 94 = okF (n + 2) := by kernel_rfl
theorem vl95 (n : Nat) : val n 95 = kindV (okF (n + 2)) 24 := by kernel_rfl
theorem vl96 (n : Nat) : val n 96 = bound 30 (kindV (okF (n + 2)) 24) := by kernel_rfl
theorem vl97 (n : Nat) : val n 97 = .agg #[.string ⟨#[78, 117, 109, 101, 114, 105, 99, 71, 114, 101, 97, 116, 101, 114, 84, 104, 97, 110, 80, 97, 116, 104]⟩, okF (n + 2), bound 30 (kindV (okF (n + 2)) 24), .bool true] := by kernel_rfl
theorem vl98 (n : Nat) : val n 98 = .pointer (some ⟨n + 3, 0, none⟩) := by kernel_rfl
theorem vl99 (n : Nat) : val n 99 = okF (n + 2) := by kernel_rfl
theorem vl100 (n : Nat) : val n 100 = kindV (okF (n + 2)) 24 := by kernel_rfl
theorem vl101 (n : Nat) : val n 101 = bound 31 (kindV (okF (n + 2)) 24) := by kernel_rfl
theorem vl102 (n : Nat) : val n 102 = .agg #[.string ⟨#[78, 117, 109, 101, 114, 105, 99, 76, 101, 115, 115, 84, 104, 97, 110, 69, 113, 117, 97, 108, 115]⟩, okF (n + 2), bound 31 (kindV (okF (n + 2)) 24), .bool false] := by kernel_rfl
theorem vl103 (n : Nat) : val n 103 = .pointer (some ⟨n + 3, 0, none⟩) := by kernel_rfl
theorem vl104 (n : Nat) : val n 104 = okF (n + 2) := by kernel_rfl
theorem vl105 (n : Nat) : val n 105 = kindV (okF (n + 2)) 24 := by kernel_rfl
theorem vl106 (n : Nat) : val n 106 = bound 31 (kindV (okF (n + 2)) 24) := by kernel_rfl
theorem vl107 (n : Nat) : val n 107 = .agg #[.string ⟨#[78, 117, 109, 101, 114, 105, 99, 76, 101, 115, 115, 84, 104, 97, 110, 69, 113, 117, 97, 108, 115, 80, 97, 116, 104]⟩, okF (n + 2), bound 31 (kindV (okF (n + 2)) 24), .bool true] := by kernel_rfl
theorem vl108 (n : Nat) : val n 108 = .pointer (some ⟨n + 3, 0, none⟩) := by kernel_rfl
theorem vl109 (n : Nat) : val n 109 = okF (n + 2) := by kernel_rfl
theorem vl110 (n : Nat) : val n 110 = kindV (okF (n + 2)) 24 := by kernel_rfl
theorem vl111 (n : Nat) : val n 111 = bound 32 (kindV (okF (n + 2)) 24) := by kernel_rfl
theorem vl112 (n : Nat) : val n 112 = .agg #[.string ⟨#[78, 117, 109, 101, 114, 105, 99, 71, 114, 101, 97, 116, 101, 114, 84, 104, 97, 110, 69, 113, 117, 97, 108, 115]⟩, okF (n + 2), bound 32 (kindV (okF (n + 2)) 24), .bool false] := by kernel_rfl
theorem vl113 (n : Nat) : val n 113 = .pointer (some ⟨n + 3, 0, none⟩) := by kernel_rfl
theorem vl114 (n : Nat) : val n 114 = okF (n + 2) := by kernel_rfl
theorem vl115 (n : Nat) : val n 115 = kindV (okF (n + 2)) 24 := by kernel_rfl
theorem vl116 (n : Nat) : val n 116 = bound 32 (kindV (okF (n + 2)) 24) := by kernel_rfl
theorem vl117 (n : Nat) : val n 117 = .agg #[.string ⟨#[78, 117, 109, 101, 114, 105, 99, 71, 114, 101, 97, 116, 101, 114, 84, 104, 97, 110, 69, 113, 117, 97, 108, 115, 80, 97, 116, 104]⟩, okF (n + 2), bound 32 (kindV (okF (n + 2)) 24), .bool true] := by kernel_rfl
theorem vl118 (n : Nat) : val n 118 = .pointer (some ⟨n + 5, 0, none⟩) := by kernel_rfl
theorem vl119 (n : Nat) : val n 119 = okF (n + 4) := by kernel_rfl
theorem vl120 (n : Nat) : val n 120 = kindV (okF (n + 4)) 25 := by kernel_rfl
theorem vl121 (n : Nat) : val n 121 = bound 28 (kindV (okF (n + 4)) 25) := by kernel_rfl
theorem vl122 (n : Nat) : val n 122 = .agg #[.string ⟨#[66, 111, 111, 108, 101, 97, 110, 69, 113, 117, 97, 108, 115]⟩, okF (n + 4), bound 28 (kindV (okF (n + 4)) 25), .bool false] := by kernel_rfl
theorem vl123 (n : Nat) : val n 123 = .pointer (some ⟨n + 5, 0, none⟩) := by kernel_rfl
theorem vl124 (n : Nat) : val n 124 = okF (n + 4) := by kernel_rfl
theorem vl125 (n : Nat) : val n 125 = kindV (okF (n + 4)) 25 := by kernel_rfl
theorem vl126 (n : Nat) : val n 126 = bound 28 (kindV (okF (n + 4)) 25) := by kernel_rfl
theorem vl127 (n : Nat) : val n 127 = .agg #[.string ⟨#[66, 111, 111, 108, 101, 97, 110, 69, 113, 117, 97, 108, 115, 80, 97, 116, 104]⟩, okF (n + 4), bound 28 (kindV (okF (n + 4)) 25), .bool true] := by kernel_rfl
theorem vl128 (n : Nat) : val n 128 = .pointer (some ⟨n + 6, 0, none⟩) := by kernel_rfl
theorem vl129 (n : Nat) : val n 129 = pl 26 := by kernel_rfl
theorem vl130 (n : Nat) : val n 130 = kindV (pl 26) 27 := by kernel_rfl
theorem vl131 (n : Nat) : val n 131 = bound 28 (kindV (pl 26) 27) := by kernel_rfl
theorem vl132 (n : Nat) : val n 132 = .agg #[.string ⟨#[84, 105, 109, 101, 115, 116, 97, 109, 112, 69, 113, 117, 97, 108, 115]⟩, pl 26, bound 28 (kindV (pl 26) 27), .bool false] := by kernel_rfl
theorem vl133 (n : Nat) : val n 133 = .pointer (some ⟨n + 6, 0, none⟩) := by kernel_rfl
theorem vl134 (n : Nat) : val n 134 = pl 26 := by kernel_rfl
theorem vl135 (n : Nat) : val n 135 = kindV (pl 26) 27 := by kernel_rfl
theorem vl136 (n : Nat) : val n 136 = bound 28 (kindV (pl 26) 27) := by kernel_rfl
theorem vl137 (n : Nat) : val n 137 = .agg #[.string ⟨#[84, 105, 109, 101, 115, 116, 97, 109, 112, 69, 113, 117, 97, 108, 115, 80, 97, 116, 104]⟩, pl 26, bound 28 (kindV (pl 26) 27), .bool true] := by kernel_rfl
theorem vl138 (n : Nat) : val n 138 = .pointer (some ⟨n + 6, 0, none⟩) := by kernel_rfl
theorem vl139 (n : Nat) : val n 139 = pl 26 := by kernel_rfl
theorem vl140 (n : Nat) : val n 140 = kindV (pl 26) 27 := by kernel_rfl
theorem vl141 (n : Nat) : val n 141 = bound 29 (kindV (pl 26) 27) := by kernel_rfl
theorem vl142 (n : Nat) : val n 142 = .agg #[.string ⟨#[84, 105, 109, 101, 115, 116, 97, 109, 112, 76, 101, 115, 115, 84, 104, 97, 110]⟩, pl 26, bound 29 (kindV (pl 26) 27), .bool false] := by kernel_rfl
theorem vl143 (n : Nat) : val n 143 = .pointer (some ⟨n + 6, 0, none⟩) := by kernel_rfl
theorem vl144 (n : Nat) : val n 144 = pl 26 := by kernel_rfl
theorem vl145 (n : Nat) : val n 145 = kindV (pl 26) 27 := by kernel_rfl
theorem vl146 (n : Nat) : val n 146 = bound 29 (kindV (pl 26) 27) := by kernel_rfl
theorem vl147 (n : Nat) : val n 147 = .agg #[.string ⟨#[84, 105, 109, 101, 115, 116, 97, 109, 112, 76, 101, 115, 115, 84, 104, 97, 110, 80, 97, 116, 104]⟩, pl 26, bound 29 (kindV (pl 26) 27), .bool true] := by kernel_rfl
theorem vl148 (n : Nat) : val n 148 = .pointer (some ⟨n + 6, 0, none⟩) := by kernel_rfl
theorem vl149 (n : Nat) : val n 149 = pl 26 := by kernel_rfl
theorem vl150 (n : Nat) : val n 150 = kindV (pl 26) 27 := by kernel_rfl
theorem vl151 (n : Nat) : val n 151 = bound 30 (kindV (pl 26) 27) := by kernel_rfl
theorem vl152 (n : Nat) : val n 152 = .agg #[.string ⟨#[84, 105, 109, 101, 115, 116, 97, 109, 112, 71, 114, 101, 97, 116, 101, 114, 84, 104, 97, 110]⟩, pl 26, bound 30 (kindV (pl 26) 27), .bool false] := by kernel_rfl
theorem vl153 (n : Nat) : val n 153 = .pointer (some ⟨n + 6, 0, none⟩) := by kernel_rfl
theorem vl154 (n : Nat) : val n 154 = pl 26 := by kernel_rfl
theorem vl155 (n : Nat) : val n 155 = kindV (pl 26) 27 := by kernel_rfl
theorem vl156 (n : Nat) : val n 156 = bound 30 (kindV (pl 26) 27) := by kernel_rfl
theorem vl157 (n : Nat) : val n 157 = .agg #[.string ⟨#[84, 105, 109, 101, 115, 116, 97, 109, 112, 71, 114, 101, 97, 116, 101, 114, 84, 104, 97, 110, 80, 97, 116, 104]⟩, pl 26, bound 30 (kindV (pl 26) 27), .bool true] := by kernel_rfl
theorem vl158 (n : Nat) : val n 158 = .pointer (some ⟨n + 6, 0, none⟩) := by kernel_rfl
theorem vl159 (n : Nat) : val n 159 = pl 26 := by kernel_rfl
theorem vl160 (n : Nat) : val n 160 = kindV (pl 26) 27 := by kernel_rfl
theorem vl161 (n : Nat) : val n 161 = bound 31 (kindV (pl 26) 27) := by kernel_rfl
theorem vl162 (n : Nat) : val n 162 = .agg #[.string ⟨#[84, 105, 109, 101, 115, 116, 97, 109, 112, 76, 101, 115, 115, 84, 104, 97, 110, 69, 113, 117, 97, 108, 115]⟩, pl 26, bound 31 (kindV (pl 26) 27), .bool false] := by kernel_rfl
theorem vl163 (n : Nat) : val n 163 = .pointer (some ⟨n + 6, 0, none⟩) := by kernel_rfl
theorem vl164 (n : Nat) : val n 164 = pl 26 := by kernel_rfl
theorem vl165 (n : Nat) : val n 165 = kindV (pl 26) 27 := by kernel_rfl
theorem vl166 (n : Nat) : val n 166 = bound 31 (kindV (pl 26) 27) := by kernel_rfl
theorem vl167 (n : Nat) : val n 167 = .agg #[.string ⟨#[84, 105, 109, 101, 115, 116, 97, 109, 112, 76, 101, 115, 115, 84, 104, 97, 110, 69, 113, 117, 97, 108, 115, 80, 97, 116, 104]⟩, pl 26, bound 31 (kindV (pl 26) 27), .bool true] := by kernel_rfl
theorem vl168 (n : Nat) : val n 168 = .pointer (some ⟨n + 6, 0, none⟩) := by kernel_rfl
theorem vl169 (n : Nat) : val n 169 = pl 26 := by kernel_rfl
theorem vl170 (n : Nat) : val n 170 = kindV (pl 26) 27 := by kernel_rfl
theorem vl171 (n : Nat) : val n 171 = bound 32 (kindV (pl 26) 27) := by kernel_rfl
theorem vl172 (n : Nat) : val n 172 = .agg #[.string ⟨#[84, 105, 109, 101, 115, 116, 97, 109, 112, 71, 114, 101, 97, 116, 101, 114, 84, 104, 97, 110, 69, 113, 117, 97, 108, 115]⟩, pl 26, bound 32 (kindV (pl 26) 27), .bool false] := by kernel_rfl
theorem vl173 (n : Nat) : val n 173 = .pointer (some ⟨n + 6, 0, none⟩) := by kernel_rfl
theorem vl174 (n : Nat) : val n 174 = pl 26 := by kernel_rfl
theorem vl175 (n : Nat) : val n 175 = kindV (pl 26) 27 := by kernel_rfl
theorem vl176 (n : Nat) : val n 176 = bound 32 (kindV (pl 26) 27) := by kernel_rfl
theorem vl177 (n : Nat) : val n 177 = .agg #[.string ⟨#[84, 105, 109, 101, 115, 116, 97, 109, 112, 71, 114, 101, 97, 116, 101, 114, 84, 104, 97, 110, 69, 113, 117, 97, 108, 115, 80, 97, 116, 104]⟩, pl 26, bound 32 (kindV (pl 26) 27), .bool true] := by kernel_rfl
theorem vl178 (n : Nat) : val n 178 = okF (n + 7) := by kernel_rfl
theorem vl179 (n : Nat) : val n 179 = .agg #[.string ⟨#[73, 115, 78, 117, 108, 108]⟩, okF (n + 7), .nilFunc, .bool false] := by kernel_rfl
theorem vl180 (n : Nat) : val n 180 = .agg #[.string ⟨#[73, 115, 80, 114, 101, 115, 101, 110, 116]⟩, .nilFunc, .nilFunc, .bool false] := by kernel_rfl
theorem vl181 (n : Nat) : val n 181 = .pointer (some ⟨n + 3, 0, none⟩) := by kernel_rfl
theorem vl182 (n : Nat) : val n 182 = okF (n + 2) := by kernel_rfl
theorem vl183 (n : Nat) : val n 183 = .agg #[.string ⟨#[73, 115, 78, 117, 109, 101, 114, 105, 99]⟩, okF (n + 2), .nilFunc, .bool false] := by kernel_rfl
theorem vl184 (n : Nat) : val n 184 = .pointer (some ⟨n + 1, 0, none⟩) := by kernel_rfl
theorem vl185 (n : Nat) : val n 185 = okF n := by kernel_rfl
theorem vl186 (n : Nat) : val n 186 = .agg #[.string ⟨#[73, 115, 83, 116, 114, 105, 110, 103]⟩, okF n, .nilFunc, .bool false] := by kernel_rfl
theorem vl187 (n : Nat) : val n 187 = .pointer (some ⟨n + 5, 0, none⟩) := by kernel_rfl
theorem vl188 (n : Nat) : val n 188 = okF (n + 4) := by kernel_rfl
theorem vl189 (n : Nat) : val n 189 = .agg #[.string ⟨#[73, 115, 66, 111, 111, 108, 101, 97, 110]⟩, okF (n + 4), .nilFunc, .bool false] := by kernel_rfl
theorem vl190 (n : Nat) : val n 190 = .pointer (some ⟨n + 6, 0, none⟩) := by kernel_rfl
theorem vl191 (n : Nat) : val n 191 = pl 26 := by kernel_rfl
theorem vl192 (n : Nat) : val n 192 = .agg #[.string ⟨#[73, 115, 84, 105, 109, 101, 115, 116, 97, 109, 112]⟩, pl 26, .nilFunc, .bool false] := by kernel_rfl
theorem vl193 (n : Nat) : val n 193 = .slice (some ⟨n + 8, 0, none⟩) 43 43 := by kernel_rfl
set_option maxRecDepth 100000 in
theorem opS0 {n : Nat} {x0 x : World} {listed : Array Bool} {a : Act} {Q : Exit → Act → World → Prop} (_X : X0 n x0) (hJ : OJ n x0 listed a x) (_hr : 0 ∈ Region.ready .any (opsOf Tryz.f14 5) listed) : wpOp Tryz.prog (opsOf Tryz.f14 5) Q 0 (OJ n x0 (listed.setIfInBounds 0 true)) a x := by
  obtain ⟨o, ho, h1, h2, h3⟩ := op_at (ops := (opsOf Tryz.f14 5)) (i := 0) (e := (.build 53 #[(0, .const (.string ⟨#[65, 110, 100]⟩))], some 12, none)) (by kernel_rfl)
  have h3' : o.guard = none := h3
  have h2' : o.dst = some 12 := h2
  clear h2 h3
  refine wpOp_val (w' := x) ho h3' (v := val n 12) ?_ (by rw [h2']; exact hJ.quiet 0 12 (by decide) (by decide) (by decide) (by decide) (fun h => absurd h (by decide)))
  rw [vl12]
  exact sh_b0 h1 
set_option maxRecDepth 100000 in
theorem opS1 {n : Nat} {x0 x : World} {listed : Array Bool} {a : Act} {Q : Exit → Act → World → Prop} (_X : X0 n x0) (hJ : OJ n x0 listed a x) (_hr : 1 ∈ Region.ready .any (opsOf Tryz.f14 5) listed) : wpOp Tryz.prog (opsOf Tryz.f14 5) Q 1 (OJ n x0 (listed.setIfInBounds 1 true)) a x := by
  obtain ⟨o, ho, h1, h2, h3⟩ := op_at (ops := (opsOf Tryz.f14 5)) (i := 1) (e := (.build 53 #[(0, .const (.string ⟨#[79, 114]⟩))], some 13, none)) (by kernel_rfl)
  have h3' : o.guard = none := h3
  have h2' : o.dst = some 13 := h2
  clear h2 h3
  refine wpOp_val (w' := x) ho h3' (v := val n 13) ?_ (by rw [h2']; exact hJ.quiet 1 13 (by decide) (by decide) (by decide) (by decide) (fun h => absurd h (by decide)))
  rw [vl13]
  exact sh_b0 h1 
set_option maxRecDepth 100000 in
theorem opS2 {n : Nat} {x0 x : World} {listed : Array Bool} {a : Act} {Q : Exit → Act → World → Prop} (_X : X0 n x0) (hJ : OJ n x0 listed a x) (_hr : 2 ∈ Region.ready .any (opsOf Tryz.f14 5) listed) : wpOp Tryz.prog (opsOf Tryz.f14 5) Q 2 (OJ n x0 (listed.setIfInBounds 2 true)) a x := by
  obtain ⟨o, ho, h1, h2, h3⟩ := op_at (ops := (opsOf Tryz.f14 5)) (i := 2) (e := (.build 53 #[(0, .const (.string ⟨#[78, 111, 116]⟩))], some 14, none)) (by kernel_rfl)
  have h3' : o.guard = none := h3
  have h2' : o.dst = some 14 := h2
  clear h2 h3
  refine wpOp_val (w' := x) ho h3' (v := val n 14) ?_ (by rw [h2']; exact hJ.quiet 2 14 (by decide) (by decide) (by decide) (by decide) (fun h => absurd h (by decide)))
  rw [vl14]
  exact sh_b0 h1 
set_option maxRecDepth 100000 in
theorem opS3 {n : Nat} {x0 x : World} {listed : Array Bool} {a : Act} {Q : Exit → Act → World → Prop} (_X : X0 n x0) (hJ : OJ n x0 listed a x) (_hr : 3 ∈ Region.ready .any (opsOf Tryz.f14 5) listed) : wpOp Tryz.prog (opsOf Tryz.f14 5) Q 3 (OJ n x0 (listed.setIfInBounds 3 true)) a x := by
  obtain ⟨o, ho, h1, h2, h3⟩ := op_at (ops := (opsOf Tryz.f14 5)) (i := 3) (e := (.fieldAddr 74 (.tmp 1) 0, some 15, none)) (by kernel_rfl)
  have h3' : o.guard = none := h3
  have h2' : o.dst = some 15 := h2
  clear h2 h3
  refine wpOp_val (w' := x) ho h3' (v := val n 15) ?_ (by rw [h2']; exact hJ.quiet 3 15 (by decide) (by decide) (by decide) (by decide) (fun h => absurd h (by decide)))
  rw [vl15]
  exact sh_fa h1 ((hJ.kn 1 (.inl ⟨by decide, by decide⟩)).trans (by kernel_rfl))
set_option maxRecDepth 100000 in
theorem opS4 {n : Nat} {x0 x : World} {listed : Array Bool} {a : Act} {Q : Exit → Act → World → Prop} (X : X0 n x0) (hJ : OJ n x0 listed a x) (hr : 4 ∈ Region.ready .any (opsOf Tryz.f14 5) listed) : wpOp Tryz.prog (opsOf Tryz.f14 5) Q 4 (OJ n x0 (listed.setIfInBounds 4 true)) a x := by
  obtain ⟨o, ho, h1, h2, h3⟩ := op_at (ops := (opsOf Tryz.f14 5)) (i := 4) (e := (.load 50 (.tmp 15), some 16, none)) (by kernel_rfl)
  have h3' : o.guard = none := h3
  have h2' : o.dst = some 16 := h2
  clear h2 h3
  refine wpOp_val (w' := x) ho h3' (v := val n 16) ?_ (by rw [h2']; exact hJ.quiet 4 16 (by decide) (by decide) (by decide) (by decide) (fun h => absurd h (by decide)))
  rw [vl16]
  exact sh_ld1 h1 ((hJ.at hr 15 ⟨by decide, by decide⟩ (by kernel_rfl)).trans (vl15 n)) (hJ.cell X.a0)
set_option maxRecDepth 100000 in
theorem opS5 {n : Nat} {x0 x : World} {listed : Array Bool} {a : Act} {Q : Exit → Act → World → Prop} (X : X0 n x0) (hJ : OJ n x0 listed a x) (_hr : 5 ∈ Region.ready .any (opsOf Tryz.f14 5) listed) : wpOp Tryz.prog (opsOf Tryz.f14 5) Q 5 (OJ n x0 (listed.setIfInBounds 5 true)) a x := by
  obtain ⟨o, ho, h1, h2, h3⟩ := op_at (ops := (opsOf Tryz.f14 5)) (i := 5) (e := (.load 74 (.tmp 1), some 17, none)) (by kernel_rfl)
  have h3' : o.guard = none := h3
  have h2' : o.dst = some 17 := h2
  clear h2 h3
  refine wpOp_val (w' := x) ho h3' (v := val n 17) ?_ (by rw [h2']; exact hJ.quiet 5 17 (by decide) (by decide) (by decide) (by decide) (fun h => absurd h (by decide)))
  rw [vl17]
  exact sh_ld2 h1 ((hJ.kn 1 (.inl ⟨by decide, by decide⟩)).trans (by kernel_rfl)) (hJ.cell X.a0) (hJ.cell X.a1)
set_option maxRecDepth 100000 in
theorem opS6 {n : Nat} {x0 x : World} {listed : Array Bool} {a : Act} {Q : Exit → Act → World → Prop} (_X : X0 n x0) (hJ : OJ n x0 listed a x) (hr : 6 ∈ Region.ready .any (opsOf Tryz.f14 5) listed) : wpOp Tryz.prog (opsOf Tryz.f14 5) Q 6 (OJ n x0 (listed.setIfInBounds 6 true)) a x := by
  obtain ⟨o, ho, h1, h2, h3⟩ := op_at (ops := (opsOf Tryz.f14 5)) (i := 6) (e := (.makeFunc (.func 28) #[.tmp 17] #[], some 18, none)) (by kernel_rfl)
  have h3' : o.guard = none := h3
  have h2' : o.dst = some 18 := h2
  clear h2 h3
  refine wpOp_val (w' := x) ho h3' (v := val n 18) ?_ (by rw [h2']; exact hJ.quiet 6 18 (by decide) (by decide) (by decide) (by decide) (fun h => absurd h (by decide)))
  rw [vl18]
  exact sh_mf h1 ((hJ.at hr 17 ⟨by decide, by decide⟩ (by kernel_rfl)).trans (vl17 n))
set_option maxRecDepth 100000 in
theorem opS7 {n : Nat} {x0 x : World} {listed : Array Bool} {a : Act} {Q : Exit → Act → World → Prop} (_X : X0 n x0) (hJ : OJ n x0 listed a x) (hr : 7 ∈ Region.ready .any (opsOf Tryz.f14 5) listed) : wpOp Tryz.prog (opsOf Tryz.f14 5) Q 7 (OJ n x0 (listed.setIfInBounds 7 true)) a x := by
  obtain ⟨o, ho, h1, h2, h3⟩ := op_at (ops := (opsOf Tryz.f14 5)) (i := 7) (e := (.build 53 #[(0, .const (.string ⟨#[83, 116, 114, 105, 110, 103, 69, 113, 117, 97, 108, 115]⟩)), (1, .tmp 16), (2, .tmp 18)], some 19, none)) (by kernel_rfl)
  have h3' : o.guard = none := h3
  have h2' : o.dst = some 19 := h2
  clear h2 h3
  refine wpOp_val (w' := x) ho h3' (v := val n 19) ?_ (by rw [h2']; exact hJ.quiet 7 19 (by decide) (by decide) (by decide) (by decide) (fun h => absurd h (by decide)))
  rw [vl19]
  exact sh_b2 h1 ((hJ.at hr 16 ⟨by decide, by decide⟩ (by kernel_rfl)).trans (vl16 n)) ((hJ.at hr 18 ⟨by decide, by decide⟩ (by kernel_rfl)).trans (vl18 n))
set_option maxRecDepth 100000 in
theorem opS8 {n : Nat} {x0 x : World} {listed : Array Bool} {a : Act} {Q : Exit → Act → World → Prop} (_X : X0 n x0) (hJ : OJ n x0 listed a x) (_hr : 8 ∈ Region.ready .any (opsOf Tryz.f14 5) listed) : wpOp Tryz.prog (opsOf Tryz.f14 5) Q 8 (OJ n x0 (listed.setIfInBounds 8 true)) a x := by
  obtain ⟨o, ho, h1, h2, h3⟩ := op_at (ops := (opsOf Tryz.f14 5)) (i := 8) (e := (.fieldAddr 74 (.tmp 1) 0, some 20, none)) (by kernel_rfl)
  have h3' : o.guard = none := h3
  have h2' : o.dst = some 20 := h2
  clear h2 h3
  refine wpOp_val (w' := x) ho h3' (v := val n 20) ?_ (by rw [h2']; exact hJ.quiet 8 20 (by decide) (by decide) (by decide) (by decide) (fun h => absurd h (by decide)))
  rw [vl20]
  exact sh_fa h1 ((hJ.kn 1 (.inl ⟨by decide, by decide⟩)).trans (by kernel_rfl))
set_option maxRecDepth 100000 in
theorem opS9 {n : Nat} {x0 x : World} {listed : Array Bool} {a : Act} {Q : Exit → Act → World → Prop} (X : X0 n x0) (hJ : OJ n x0 listed a x) (hr : 9 ∈ Region.ready .any (opsOf Tryz.f14 5) listed) : wpOp Tryz.prog (opsOf Tryz.f14 5) Q 9 (OJ n x0 (listed.setIfInBounds 9 true)) a x := by
  obtain ⟨o, ho, h1, h2, h3⟩ := op_at (ops := (opsOf Tryz.f14 5)) (i := 9) (e := (.load 50 (.tmp 20), some 21, none)) (by kernel_rfl)
  have h3' : o.guard = none := h3
  have h2' : o.dst = some 21 := h2
  clear h2 h3
  refine wpOp_val (w' := x) ho h3' (v := val n 21) ?_ (by rw [h2']; exact hJ.quiet 9 21 (by decide) (by decide) (by decide) (by decide) (fun h => absurd h (by decide)))
  rw [vl21]
  exact sh_ld1 h1 ((hJ.at hr 20 ⟨by decide, by decide⟩ (by kernel_rfl)).trans (vl20 n)) (hJ.cell X.a0)
set_option maxRecDepth 100000 in
theorem opS10 {n : Nat} {x0 x : World} {listed : Array Bool} {a : Act} {Q : Exit → Act → World → Prop} (X : X0 n x0) (hJ : OJ n x0 listed a x) (_hr : 10 ∈ Region.ready .any (opsOf Tryz.f14 5) listed) : wpOp Tryz.prog (opsOf Tryz.f14 5) Q 10 (OJ n x0 (listed.setIfInBounds 10 true)) a x := by
  obtain ⟨o, ho, h1, h2, h3⟩ := op_at (ops := (opsOf Tryz.f14 5)) (i := 10) (e := (.load 74 (.tmp 1), some 22, none)) (by kernel_rfl)
  have h3' : o.guard = none := h3
  have h2' : o.dst = some 22 := h2
  clear h2 h3
  refine wpOp_val (w' := x) ho h3' (v := val n 22) ?_ (by rw [h2']; exact hJ.quiet 10 22 (by decide) (by decide) (by decide) (by decide) (fun h => absurd h (by decide)))
  rw [vl22]
  exact sh_ld2 h1 ((hJ.kn 1 (.inl ⟨by decide, by decide⟩)).trans (by kernel_rfl)) (hJ.cell X.a0) (hJ.cell X.a1)
set_option maxRecDepth 100000 in
theorem opS11 {n : Nat} {x0 x : World} {listed : Array Bool} {a : Act} {Q : Exit → Act → World → Prop} (_X : X0 n x0) (hJ : OJ n x0 listed a x) (hr : 11 ∈ Region.ready .any (opsOf Tryz.f14 5) listed) : wpOp Tryz.prog (opsOf Tryz.f14 5) Q 11 (OJ n x0 (listed.setIfInBounds 11 true)) a x := by
  obtain ⟨o, ho, h1, h2, h3⟩ := op_at (ops := (opsOf Tryz.f14 5)) (i := 11) (e := (.makeFunc (.func 28) #[.tmp 22] #[], some 23, none)) (by kernel_rfl)
  have h3' : o.guard = none := h3
  have h2' : o.dst = some 23 := h2
  clear h2 h3
  refine wpOp_val (w' := x) ho h3' (v := val n 23) ?_ (by rw [h2']; exact hJ.quiet 11 23 (by decide) (by decide) (by decide) (by decide) (fun h => absurd h (by decide)))
  rw [vl23]
  exact sh_mf h1 ((hJ.at hr 22 ⟨by decide, by decide⟩ (by kernel_rfl)).trans (vl22 n))
set_option maxRecDepth 100000 in
theorem opS12 {n : Nat} {x0 x : World} {listed : Array Bool} {a : Act} {Q : Exit → Act → World → Prop} (_X : X0 n x0) (hJ : OJ n x0 listed a x) (hr : 12 ∈ Region.ready .any (opsOf Tryz.f14 5) listed) : wpOp Tryz.prog (opsOf Tryz.f14 5) Q 12 (OJ n x0 (listed.setIfInBounds 12 true)) a x := by
  obtain ⟨o, ho, h1, h2, h3⟩ := op_at (ops := (opsOf Tryz.f14 5)) (i := 12) (e := (.build 53 #[(0, .const (.string ⟨#[83, 116, 114, 105, 110, 103, 69, 113, 117, 97, 108, 115, 80, 97, 116, 104]⟩)), (1, .tmp 21), (2, .tmp 23), (3, .const (.bool true))], some 24, none)) (by kernel_rfl)
  have h3' : o.guard = none := h3
  have h2' : o.dst = some 24 := h2
  clear h2 h3
  refine wpOp_val (w' := x) ho h3' (v := val n 24) ?_ (by rw [h2']; exact hJ.quiet 12 24 (by decide) (by decide) (by decide) (by decide) (fun h => absurd h (by decide)))
  rw [vl24]
  exact sh_b3 h1 ((hJ.at hr 21 ⟨by decide, by decide⟩ (by kernel_rfl)).trans (vl21 n)) ((hJ.at hr 23 ⟨by decide, by decide⟩ (by kernel_rfl)).trans (vl23 n))
set_option maxRecDepth 100000 in
theorem opS13 {n : Nat} {x0 x : World} {listed : Array Bool} {a : Act} {Q : Exit → Act → World → Prop} (_X : X0 n x0) (hJ : OJ n x0 listed a x) (_hr : 13 ∈ Region.ready .any (opsOf Tryz.f14 5) listed) : wpOp Tryz.prog (opsOf Tryz.f14 5) Q 13 (OJ n x0 (listed.setIfInBounds 13 true)) a x := by
  obtain ⟨o, ho, h1, h2, h3⟩ := op_at (ops := (opsOf Tryz.f14 5)) (i := 13) (e := (.fieldAddr 74 (.tmp 1) 0, some 25, none)) (by kernel_rfl)
  have h3' : o.guard = none := h3
  have h2' : o.dst = some 25 := h2
  clear h2 h3
  refine wpOp_val (w' := x) ho h3' (v := val n 25) ?_ (by rw [h2']; exact hJ.quiet 13 25 (by decide) (by decide) (by decide) (by decide) (fun h => absurd h (by decide)))
  rw [vl25]
  exact sh_fa h1 ((hJ.kn 1 (.inl ⟨by decide, by decide⟩)).trans (by kernel_rfl))
set_option maxRecDepth 100000 in
theorem opS14 {n : Nat} {x0 x : World} {listed : Array Bool} {a : Act} {Q : Exit → Act → World → Prop} (X : X0 n x0) (hJ : OJ n x0 listed a x) (hr : 14 ∈ Region.ready .any (opsOf Tryz.f14 5) listed) : wpOp Tryz.prog (opsOf Tryz.f14 5) Q 14 (OJ n x0 (listed.setIfInBounds 14 true)) a x := by
  obtain ⟨o, ho, h1, h2, h3⟩ := op_at (ops := (opsOf Tryz.f14 5)) (i := 14) (e := (.load 50 (.tmp 25), some 26, none)) (by kernel_rfl)
  have h3' : o.guard = none := h3
  have h2' : o.dst = some 26 := h2
  clear h2 h3
  refine wpOp_val (w' := x) ho h3' (v := val n 26) ?_ (by rw [h2']; exact hJ.quiet 14 26 (by decide) (by decide) (by decide) (by decide) (fun h => absurd h (by decide)))
  rw [vl26]
  exact sh_ld1 h1 ((hJ.at hr 25 ⟨by decide, by decide⟩ (by kernel_rfl)).trans (vl25 n)) (hJ.cell X.a0)
set_option maxRecDepth 100000 in
theorem opS15 {n : Nat} {x0 x : World} {listed : Array Bool} {a : Act} {Q : Exit → Act → World → Prop} (X : X0 n x0) (hJ : OJ n x0 listed a x) (_hr : 15 ∈ Region.ready .any (opsOf Tryz.f14 5) listed) : wpOp Tryz.prog (opsOf Tryz.f14 5) Q 15 (OJ n x0 (listed.setIfInBounds 15 true)) a x := by
  obtain ⟨o, ho, h1, h2, h3⟩ := op_at (ops := (opsOf Tryz.f14 5)) (i := 15) (e := (.load 74 (.tmp 1), some 27, none)) (by kernel_rfl)
  have h3' : o.guard = none := h3
  have h2' : o.dst = some 27 := h2
  clear h2 h3
  refine wpOp_val (w' := x) ho h3' (v := val n 27) ?_ (by rw [h2']; exact hJ.quiet 15 27 (by decide) (by decide) (by decide) (by decide) (fun h => absurd h (by decide)))
  rw [vl27]
  exact sh_ld2 h1 ((hJ.kn 1 (.inl ⟨by decide, by decide⟩)).trans (by kernel_rfl)) (hJ.cell X.a0) (hJ.cell X.a1)
set_option maxRecDepth 100000 in
theorem opS16 {n : Nat} {x0 x : World} {listed : Array Bool} {a : Act} {Q : Exit → Act → World → Prop} (_X : X0 n x0) (hJ : OJ n x0 listed a x) (hr : 16 ∈ Region.ready .any (opsOf Tryz.f14 5) listed) : wpOp Tryz.prog (opsOf Tryz.f14 5) Q 16 (OJ n x0 (listed.setIfInBounds 16 true)) a x := by
  obtain ⟨o, ho, h1, h2, h3⟩ := op_at (ops := (opsOf Tryz.f14 5)) (i := 16) (e := (.makeFunc (.func 29) #[.tmp 27] #[], some 28, none)) (by kernel_rfl)
  have h3' : o.guard = none := h3
  have h2' : o.dst = some 28 := h2
  clear h2 h3
  refine wpOp_val (w' := x) ho h3' (v := val n 28) ?_ (by rw [h2']; exact hJ.quiet 16 28 (by decide) (by decide) (by decide) (by decide) (fun h => absurd h (by decide)))
  rw [vl28]
  exact sh_mf h1 ((hJ.at hr 27 ⟨by decide, by decide⟩ (by kernel_rfl)).trans (vl27 n))
set_option maxRecDepth 100000 in
theorem opS17 {n : Nat} {x0 x : World} {listed : Array Bool} {a : Act} {Q : Exit → Act → World → Prop} (_X : X0 n x0) (hJ : OJ n x0 listed a x) (hr : 17 ∈ Region.ready .any (opsOf Tryz.f14 5) listed) : wpOp Tryz.prog (opsOf Tryz.f14 5) Q 17 (OJ n x0 (listed.setIfInBounds 17 true)) a x := by
  obtain ⟨o, ho, h1, h2, h3⟩ := op_at (ops := (opsOf Tryz.f14 5)) (i := 17) (e := (.build 53 #[(0, .const (.string ⟨#[83, 116, 114, 105, 110, 103, 76, 101, 115, 115, 84, 104, 97, 110]⟩)), (1, .tmp 26), (2, .tmp 28)], some 29, none)) (by kernel_rfl)
  have h3' : o.guard = none := h3
  have h2' : o.dst = some 29 := h2
  clear h2 h3
  refine wpOp_val (w' := x) ho h3' (v := val n 29) ?_ (by rw [h2']; exact hJ.quiet 17 29 (by decide) (by decide) (by decide) (by decide) (fun h => absurd h (by decide)))
  rw [vl29]
  exact sh_b2 h1 ((hJ.at hr 26 ⟨by decide, by decide⟩ (by kernel_rfl)).trans (vl26 n)) ((hJ.at hr 28 ⟨by decide, by decide⟩ (by kernel_rfl)).trans (vl28 n))
set_option maxRecDepth 100000 in
theorem opS18 {n : Nat} {x0 x : World} {listed : Array Bool} {a : Act} {Q : Exit → Act → World → Prop} (_X : X0 n x0) (hJ : OJ n x0 listed a x) (_hr : 18 ∈ Region.ready .any (opsOf Tryz.f14 5) listed) : wpOp Tryz.prog (opsOf Tryz.f14 5) Q 18 (OJ n x0 (listed.setIfInBounds 18 true)) a x := by
  obtain ⟨o, ho, h1, h2, h3⟩ := op_at (ops := (opsOf Tryz.f14 5)) (i := 18) (e := (.fieldAddr 74 (.tmp 1) 0, some 30, none)) (by kernel_rfl)
  have h3' : o.guard = none := h3
  have h2' : o.dst = some 30 := h2
  clear h2 h3
  refine wpOp_val (w' := x) ho h3' (v := val n 30) ?_ (by rw [h2']; exact hJ.quiet 18 30 (by decide) (by decide) (by decide) (by decide) (fun h => absurd h (by decide)))
  rw [vl30]
  exact sh_fa h1 ((hJ.kn 1 (.inl ⟨by decide, by decide⟩)).trans (by kernel_rfl))
set_option maxRecDepth 100000 in
theorem opS19 {n : Nat} {x0 x : World} {listed : Array Bool} {a : Act} {Q : Exit → Act → World → Prop} (X : X0 n x0) (hJ : OJ n x0 listed a x) (hr : 19 ∈ Region.ready .any (opsOf Tryz.f14 5) listed) : wpOp Tryz.prog (opsOf Tryz.f14 5) Q 19 (OJ n x0 (listed.setIfInBounds 19 true)) a x := by
  obtain ⟨o, ho, h1, h2, h3⟩ := op_at (ops := (opsOf Tryz.f14 5)) (i := 19) (e := (.load 50 (.tmp 30), some 31, none)) (by kernel_rfl)
  have h3' : o.guard = none := h3
  have h2' : o.dst = some 31 := h2
  clear h2 h3
  refine wpOp_val (w' := x) ho h3' (v := val n 31) ?_ (by rw [h2']; exact hJ.quiet 19 31 (by decide) (by decide) (by decide) (by decide) (fun h => absurd h (by decide)))
  rw [vl31]
  exact sh_ld1 h1 ((hJ.at hr 30 ⟨by decide, by decide⟩ (by kernel_rfl)).trans (vl30 n)) (hJ.cell X.a0)
set_option maxRecDepth 100000 in
theorem opS20 {n : Nat} {x0 x : World} {listed : Array Bool} {a : Act} {Q : Exit → Act → World → Prop} (X : X0 n x0) (hJ : OJ n x0 listed a x) (_hr : 20 ∈ Region.ready .any (opsOf Tryz.f14 5) listed) : wpOp Tryz.prog (opsOf Tryz.f14 5) Q 20 (OJ n x0 (listed.setIfInBounds 20 true)) a x := by
  obtain ⟨o, ho, h1, h2, h3⟩ := op_at (ops := (opsOf Tryz.f14 5)) (i := 20) (e := (.load 74 (.tmp 1), some 32, none)) (by kernel_rfl)
  have h3' : o.guard = none := h3
  have h2' : o.dst = some 32 := h2
  clear h2 h3
  refine wpOp_val (w' := x) ho h3' (v := val n 32) ?_ (by rw [h2']; exact hJ.quiet 20 32 (by decide) (by decide) (by decide) (by decide) (fun h => absurd h (by decide)))
  rw [vl32]
  exact sh_ld2 h1 ((hJ.kn 1 (.inl ⟨by decide, by decide⟩)).trans (by kernel_rfl)) (hJ.cell X.a0) (hJ.cell X.a1)
set_option maxRecDepth 100000 in
theorem opS21 {n : Nat} {x0 x : World} {listed : Array Bool} {a : Act} {Q : Exit → Act → World → Prop} (_X : X0 n x0) (hJ : OJ n x0 listed a x) (hr : 21 ∈ Region.ready .any (opsOf Tryz.f14 5) listed) : wpOp Tryz.prog (opsOf Tryz.f14 5) Q 21 (OJ n x0 (listed.setIfInBounds 21 true)) a x := by
  obtain ⟨o, ho, h1, h2, h3⟩ := op_at (ops := (opsOf Tryz.f14 5)) (i := 21) (e := (.makeFunc (.func 29) #[.tmp 32] #[], some 33, none)) (by kernel_rfl)
  have h3' : o.guard = none := h3
  have h2' : o.dst = some 33 := h2
  clear h2 h3
  refine wpOp_val (w' := x) ho h3' (v := val n 33) ?_ (by rw [h2']; exact hJ.quiet 21 33 (by decide) (by decide) (by decide) (by decide) (fun h => absurd h (by decide)))
  rw [vl33]
  exact sh_mf h1 ((hJ.at hr 32 ⟨by decide, by decide⟩ (by kernel_rfl)).trans (vl32 n))
set_option maxRecDepth 100000 in
theorem opS22 {n : Nat} {x0 x : World} {listed : Array Bool} {a : Act} {Q : Exit → Act → World → Prop} (_X : X0 n x0) (hJ : OJ n x0 listed a x) (hr : 22 ∈ Region.ready .any (opsOf Tryz.f14 5) listed) : wpOp Tryz.prog (opsOf Tryz.f14 5) Q 22 (OJ n x0 (listed.setIfInBounds 22 true)) a x := by
  obtain ⟨o, ho, h1, h2, h3⟩ := op_at (ops := (opsOf Tryz.f14 5)) (i := 22) (e := (.build 53 #[(0, .const (.string ⟨#[83, 116, 114, 105, 110, 103, 76, 101, 115, 115, 84, 104, 97, 110, 80, 97, 116, 104]⟩)), (1, .tmp 31), (2, .tmp 33), (3, .const (.bool true))], some 34, none)) (by kernel_rfl)
  have h3' : o.guard = none := h3
  have h2' : o.dst = some 34 := h2
  clear h2 h3
  refine wpOp_val (w' := x) ho h3' (v := val n 34) ?_ (by rw [h2']; exact hJ.quiet 22 34 (by decide) (by decide) (by decide) (by decide) (fun h => absurd h (by decide)))
  rw [vl34]
  exact sh_b3 h1 ((hJ.at hr 31 ⟨by decide, by decide⟩ (by kernel_rfl)).trans (vl31 n)) ((hJ.at hr 33 ⟨by decide, by decide⟩ (by kernel_rfl)).trans (vl33 n))
set_option maxRecDepth 100000 in
theorem opS23 {n : Nat} {x0 x : World} {listed : Array Bool} {a : Act} {Q : Exit → Act → World → Prop} (_X : X0 n x0) (hJ : OJ n x0 listed a x) (_hr : 23 ∈ Region.ready .any (opsOf Tryz.f14 5) listed) : wpOp Tryz.prog (opsOf Tryz.f14 5) Q 23 (OJ n x0 (listed.setIfInBounds 23 true)) a x := by
  obtain ⟨o, ho, h1, h2, h3⟩ := op_at (ops := (opsOf Tryz.f14 5)) (i := 23) (e := (.fieldAddr 74 (.tmp 1) 0, some 35, none)) (by kernel_rfl)
  have h3' : o.guard = none := h3
  have h2' : o.dst = some 35 := h2
  clear h2 h3
  refine wpOp_val (w' := x) ho h3' (v := val n 35) ?_ (by rw [h2']; exact hJ.quiet 23 35 (by decide) (by decide) (by decide) (by decide) (fun h => absurd h (by decide)))
  rw [vl35]
  exact sh_fa h1 ((hJ.kn 1 (.inl ⟨by decide, by decide⟩)).trans (by kernel_rfl))
set_option maxRecDepth 100000 in
theorem opS24 {n : Nat} {x0 x : World} {listed : Array Bool} {a : Act} {Q : Exit → Act → World → Prop} (X : X0 n x0) (hJ : OJ n x0 listed a x) (hr : 24 ∈ Region.ready .any (opsOf Tryz.f14 5) listed) : wpOp Tryz.prog (opsOf Tryz.f14 5) Q 24 (OJ n x0 (listed.setIfInBounds 24 true)) a x := by
  obtain ⟨o, ho, h1, h2, h3⟩ := op_at (ops := (opsOf Tryz.f14 5)) (i := 24) (e := (.load 50 (.tmp 35), some 36, none)) (by kernel_rfl)
  have h3' : o.guard = none := h3
  have h2' : o.dst = some 36 := h2
  clear h2 h3
  refine wpOp_val (w' := x) ho h3' (v := val n 36) ?_ (by rw [h2']; exact hJ.quiet 24 36 (by decide) (by decide) (by decide) (by decide) (fun h => absurd h (by decide)))
  rw [vl36]
  exact sh_ld1 h1 ((hJ.at hr 35 ⟨by decide, by decide⟩ (by kernel_rfl)).trans (vl35 n)) (hJ.cell X.a0)
set_option maxRecDepth 100000 in
theorem opS25 {n : Nat} {x0 x : World} {listed : Array Bool} {a : Act} {Q : Exit → Act → World → Prop} (X : X0 n x0) (hJ : OJ n x0 listed a x) (_hr : 25 ∈ Region.ready .any (opsOf Tryz.f14 5) listed) : wpOp Tryz.prog (opsOf Tryz.f14 5) Q 25 (OJ n x0 (listed.setIfInBounds 25 true)) a x := by
  obtain ⟨o, ho, h1, h2, h3⟩ := op_at (ops := (opsOf Tryz.f14 5)) (i := 25) (e := (.load 74 (.tmp 1), some 37, none)) (by kernel_rfl)
  have h3' : o.guard = none := h3
  have h2' : o.dst = some 37 := h2
  clear h2 h3
  refine wpOp_val (w' := x) ho h3' (v := val n 37) ?_ (by rw [h2']; exact hJ.quiet 25 37 (by decide) (by decide) (by decide) (by decide) (fun h => absurd h (by decide)))
  rw [vl37]
  exact sh_ld2 h1 ((hJ.kn 1 (.inl ⟨by decide, by decide⟩)).trans (by kernel_rfl)) (hJ.cell X.a0) (hJ.cell X.a1)
set_option maxRecDepth 100000 in
theorem opS26 {n : Nat} {x0 x : World} {listed : Array Bool} {a : Act} {Q : Exit → Act → World → Prop} (_X : X0 n x0) (hJ : OJ n x0 listed a x) (hr : 26 ∈ Region.ready .any (opsOf Tryz.f14 5) listed) : wpOp Tryz.prog (opsOf Tryz.f14 5) Q 26 (OJ n x0 (listed.setIfInBounds 26 true)) a x := by
  obtain ⟨o, ho, h1, h2, h3⟩ := op_at (ops := (opsOf Tryz.f14 5)) (i := 26) (e := (.makeFunc (.func 30) #[.tmp 37] #[], some 38, none)) (by kernel_rfl)
  have h3' : o.guard = none := h3
  have h2' : o.dst = some 38 := h2
  clear h2 h3
  refine wpOp_val (w' := x) ho h3' (v := val n 38) ?_ (by rw [h2']; exact hJ.quiet 26 38 (by decide) (by decide) (by decide) (by decide) (fun h => absurd h (by decide)))
  rw [vl38]
  exact sh_mf h1 ((hJ.at hr 37 ⟨by decide, by decide⟩ (by kernel_rfl)).trans (vl37 n))
set_option maxRecDepth 100000 in
theorem opS27 {n : Nat} {x0 x : World} {listed : Array Bool} {a : Act} {Q : Exit → Act → World → Prop} (_X : X0 n x0) (hJ : OJ n x0 listed a x) (hr : 27 ∈ Region.ready .any (opsOf Tryz.f14 5) listed) : wpOp Tryz.prog (opsOf Tryz.f14 5) Q 27 (OJ n x0 (listed.setIfInBounds 27 true)) a x := by
  obtain ⟨o, ho, h1, h2, h3⟩ := op_at (ops := (opsOf Tryz.f14 5)) (i := 27) (e := (.build 53 #[(0, .const (.string ⟨#[83, 116, 114, 105, 110, 103, 71, 114, 101, 97, 116, 101, 114, 84, 104, 97, 110]⟩)), (1, .tmp 36), (2, .tmp 38)], some 39, none)) (by kernel_rfl)
  have h3' : o.guard = none := h3
  have h2' : o.dst = some 39 := h2
  clear h2 h3
  refine wpOp_val (w' := x) ho h3' (v := val n 39) ?_ (by rw [h2']; exact hJ.quiet 27 39 (by decide) (by decide) (by decide) (by decide) (fun h => absurd h (by decide)))
  rw [vl39]
  exact sh_b2 h1 ((hJ.at hr 36 ⟨by decide, by decide⟩ (by kernel_rfl)).trans (vl36 n)) ((hJ.at hr 38 ⟨by decide, by decide⟩ (by kernel_rfl)).trans (vl38 n))
set_option maxRecDepth 100000 in
theorem opS28 {n : Nat} {x0 x : World} {listed : Array Bool} {a : Act} {Q : Exit → Act → World → Prop} (_X : X0 n x0) (hJ : OJ n x0 listed a x) (_hr : 28 ∈ Region.ready .any (opsOf Tryz.f14 5) listed) : wpOp Tryz.prog (opsOf Tryz.f14 5) Q 28 (OJ n x0 (listed.setIfInBounds 28 true)) a x := by
  obtain ⟨o, ho, h1, h2, h3⟩ := op_at (ops := (opsOf Tryz.f14 5)) (i := 28) (e := (.fieldAddr 74 (.tmp 1) 0, some 40, none)) (by kernel_rfl)
  have h3' : o.guard = none := h3
  have h2' : o.dst = some 40 := h2
  clear h2 h3
  refine wpOp_val (w' := x) ho h3' (v := val n 40) ?_ (by rw [h2']; exact hJ.quiet 28 40 (by decide) (by decide) (by decide) (by decide) (fun h => absurd h (by decide)))
  rw [vl40]
  exact sh_fa h1 ((hJ.kn 1 (.inl ⟨by decide, by decide⟩)).trans (by kernel_rfl))
set_option maxRecDepth 100000 in
theorem opS29 {n : Nat} {x0 x : World} {listed : Array Bool} {a : Act} {Q : Exit → Act → World → Prop} (X : X0 n x0) (hJ : OJ n x0 listed a x) (hr : 29 ∈ Region.ready .any (opsOf Tryz.f14 5) listed) : wpOp Tryz.prog (opsOf Tryz.f14 5) Q 29 (OJ n x0 (listed.setIfInBounds 29 true)) a x := by
  obtain ⟨o, ho, h1, h2, h3⟩ := op_at (ops := (opsOf Tryz.f14 5)) (i := 29) (e := (.load 50 (.tmp 40), some 41, none)) (by kernel_rfl)
  have h3' : o.guard = none := h3
  have h2' : o.dst = some 41 := h2
  clear h2 h3
  refine wpOp_val (w' := x) ho h3' (v := val n 41) ?_ (by rw [h2']; exact hJ.quiet 29 41 (by decide) (by decide) (by decide) (by decide) (fun h => absurd h (by decide)))
  rw [vl41]
  exact sh_ld1 h1 ((hJ.at hr 40 ⟨by decide, by decide⟩ (by kernel_rfl)).trans (vl40 n)) (hJ.cell X.a0)
set_option maxRecDepth 100000 in
theorem opS30 {n : Nat} {x0 x : World} {listed : Array Bool} {a : Act} {Q : Exit → Act → World → Prop} (X : X0 n x0) (hJ : OJ n x0 listed a x) (_hr : 30 ∈ Region.ready .any (opsOf Tryz.f14 5) listed) : wpOp Tryz.prog (opsOf Tryz.f14 5) Q 30 (OJ n x0 (listed.setIfInBounds 30 true)) a x := by
  obtain ⟨o, ho, h1, h2, h3⟩ := op_at (ops := (opsOf Tryz.f14 5)) (i := 30) (e := (.load 74 (.tmp 1), some 42, none)) (by kernel_rfl)
  have h3' : o.guard = none := h3
  have h2' : o.dst = some 42 := h2
  clear h2 h3
  refine wpOp_val (w' := x) ho h3' (v := val n 42) ?_ (by rw [h2']; exact hJ.quiet 30 42 (by decide) (by decide) (by decide) (by decide) (fun h => absurd h (by decide)))
  rw [vl42]
  exact sh_ld2 h1 ((hJ.kn 1 (.inl ⟨by decide, by decide⟩)).trans (by kernel_rfl)) (hJ.cell X.a0) (hJ.cell X.a1)
set_option maxRecDepth 100000 in
theorem opS31 {n : Nat} {x0 x : World} {listed : Array Bool} {a : Act} {Q : Exit → Act → World → Prop} (_X : X0 n x0) (hJ : OJ n x0 listed a x) (hr : 31 ∈ Region.ready .any (opsOf Tryz.f14 5) listed) : wpOp Tryz.prog (opsOf Tryz.f14 5) Q 31 (OJ n x0 (listed.setIfInBounds 31 true)) a x := by
  obtain ⟨o, ho, h1, h2, h3⟩ := op_at (ops := (opsOf Tryz.f14 5)) (i := 31) (e := (.makeFunc (.func 30) #[.tmp 42] #[], some 43, none)) (by kernel_rfl)
  have h3' : o.guard = none := h3
  have h2' : o.dst = some 43 := h2
  clear h2 h3
  refine wpOp_val (w' := x) ho h3' (v := val n 43) ?_ (by rw [h2']; exact hJ.quiet 31 43 (by decide) (by decide) (by decide) (by decide) (fun h => absurd h (by decide)))
  rw [vl43]
  exact sh_mf h1 ((hJ.at hr 42 ⟨by decide, by decide⟩ (by kernel_rfl)).trans (vl42 n))
set_option maxRecDepth 100000 in
theorem opS32 {n : Nat} {x0 x : World} {listed : Array Bool} {a : Act} {Q : Exit → Act → World → Prop} (_X : X0 n x0) (hJ : OJ n x0 listed a x) (hr : 32 ∈ Region.ready .any (opsOf Tryz.f14 5) listed) : wpOp Tryz.prog (opsOf Tryz.f14 5) Q 32 (OJ n x0 (listed.setIfInBounds 32 true)) a x := by
  obtain ⟨o, ho, h1, h2, h3⟩ := op_at (ops := (opsOf Tryz.f14 5)) (i := 32) (e := (.build 53 #[(0, .const (.string ⟨#[83, 116, 114, 105, 110, 103, 71, 114, 101, 97, 116, 101, 114, 84, 104, 97, 110, 80, 97, 116, 104]⟩)), (1, .tmp 41), (2, .tmp 43), (3, .const (.bool true))], some 44, none)) (by kernel_rfl)
  have h3' : o.guard = none := h3
  have h2' : o.dst = some 44 := h2
  clear h2 h3
  refine wpOp_val (w' := x) ho h3' (v := val n 44) ?_ (by rw [h2']; exact hJ.quiet 32 44 (by decide) (by decide) (by decide) (by decide) (fun h => absurd h (by decide)))
  rw [vl44]
  exact sh_b3 h1 ((hJ.at hr 41 ⟨by decide, by decide⟩ (by kernel_rfl)).trans (vl41 n)) ((hJ.at hr 43 ⟨by decide, by decide⟩ (by kernel_rfl)).trans (vl43 n))
set_option maxRecDepth 100000 in
theorem opS33 {n : Nat} {x0 x : World} {listed : Array Bool} {a : Act} {Q : Exit → Act → World → Prop} (_X : X0 n x0) (hJ : OJ n x0 listed a x) (_hr : 33 ∈ Region.ready .any (opsOf Tryz.f14 5) listed) : wpOp Tryz.prog (opsOf Tryz.f14 5) Q 33 (OJ n x0 (listed.setIfInBounds 33 true)) a x := by
  obtain ⟨o, ho, h1, h2, h3⟩ := op_at (ops := (opsOf Tryz.f14 5)) (i := 33) (e := (.fieldAddr 74 (.tmp 1) 0, some 45, none)) (by kernel_rfl)
  have h3' : o.guard = none := h3
  have h2' : o.dst = some 45 := h2
  clear h2 h3
  refine wpOp_val (w' := x) ho h3' (v := val n 45) ?_ (by rw [h2']; exact hJ.quiet 33 45 (by decide) (by decide) (by decide) (by decide) (fun h => absurd h (by decide)))
  rw [vl45]
  exact sh_fa h1 ((hJ.kn 1 (.inl ⟨by decide, by decide⟩)).trans (by kernel_rfl))
set_option maxRecDepth 100000 in
theorem opS34 {n : Nat} {x0 x : World} {listed : Array Bool} {a : Act} {Q : Exit → Act → World → Prop} (X : X0 n x0) (hJ : OJ n x0 listed a x) (hr : 34 ∈ Region.ready .any (opsOf Tryz.f14 5) listed) : wpOp Tryz.prog (opsOf Tryz.f14 5) Q 34 (OJ n x0 (listed.setIfInBounds 34 true)) a x := by
  obtain ⟨o, ho, h1, h2, h3⟩ := op_at (ops := (opsOf Tryz.f14 5)) (i := 34) (e := (.load 50 (.tmp 45), some 46, none)) (by kernel_rfl)
  have h3' : o.guard = none := h3
  have h2' : o.dst = some 46 := h2
  clear h2 h3
  refine wpOp_val (w' := x) ho h3' (v := val n 46) ?_ (by rw [h2']; exact hJ.quiet 34 46 (by decide) (by decide) (by decide) (by decide) (fun h => absurd h (by decide)))
  rw [vl46]
  exact sh_ld1 h1 ((hJ.at hr 45 ⟨by decide, by decide⟩ (by kernel_rfl)).trans (vl45 n)) (hJ.cell X.a0)
set_option maxRecDepth 100000 in
theorem opS35 {n : Nat} {x0 x : World} {listed : Array Bool} {a : Act} {Q : Exit → Act → World → Prop} (X : X0 n x0) (hJ : OJ n x0 listed a x) (_hr : 35 ∈ Region.ready .any (opsOf Tryz.f14 5) listed) : wpOp Tryz.prog (opsOf Tryz.f14 5) Q 35 (OJ n x0 (listed.setIfInBounds 35 true)) a x := by
  obtain ⟨o, ho, h1, h2, h3⟩ := op_at (ops := (opsOf Tryz.f14 5)) (i := 35) (e := (.load 74 (.tmp 1), some 47, none)) (by kernel_rfl)
  have h3' : o.guard = none := h3
  have h2' : o.dst = some 47 := h2
  clear h2 h3
  refine wpOp_val (w' := x) ho h3' (v := val n 47) ?_ (by rw [h2']; exact hJ.quiet 35 47 (by decide) (by decide) (by decide) (by decide) (fun h => absurd h (by decide)))
  rw [vl47]
  exact sh_ld2 h1 ((hJ.kn 1 (.inl ⟨by decide, by decide⟩)).trans (by kernel_rfl)) (hJ.cell X.a0) (hJ.cell X.a1)
set_option maxRecDepth 100000 in
theorem opS36 {n : Nat} {x0 x : World} {listed : Array Bool} {a : Act} {Q : Exit → Act → World → Prop} (_X : X0 n x0) (hJ : OJ n x0 listed a x) (hr : 36 ∈ Region.ready .any (opsOf Tryz.f14 5) listed) : wpOp Tryz.prog (opsOf Tryz.f14 5) Q 36 (OJ n x0 (listed.setIfInBounds 36 true)) a x := by
  obtain ⟨o, ho, h1, h2, h3⟩ := op_at (ops := (opsOf Tryz.f14 5)) (i := 36) (e := (.makeFunc (.func 31) #[.tmp 47] #[], some 48, none)) (by kernel_rfl)
  have h3' : o.guard = none := h3
  have h2' : o.dst = some 48 := h2
  clear h2 h3
  refine wpOp_val (w' := x) ho h3' (v := val n 48) ?_ (by rw [h2']; exact hJ.quiet 36 48 (by decide) (by decide) (by decide) (by decide) (fun h => absurd h (by decide)))
  rw [vl48]
  exact sh_mf h1 ((hJ.at hr 47 ⟨by decide, by decide⟩ (by kernel_rfl)).trans (vl47 n))
set_option maxRecDepth 100000 in
theorem opS37 {n : Nat} {x0 x : World} {listed : Array Bool} {a : Act} {Q : Exit → Act → World → Prop} (_X : X0 n x0) (hJ : OJ n x0 listed a x) (hr : 37 ∈ Region.ready .any (opsOf Tryz.f14 5) listed) : wpOp Tryz.prog (opsOf Tryz.f14 5) Q 37 (OJ n x0 (listed.setIfInBounds 37 true)) a x := by
  obtain ⟨o, ho, h1, h2, h3⟩ := op_at (ops := (opsOf Tryz.f14 5)) (i := 37) (e := (.build 53 #[(0, .const (.string ⟨#[83, 116, 114, 105, 110, 103, 76, 101, 115, 115, 84, 104, 97, 110, 69, 113, 117, 97, 108, 115]⟩)), (1, .tmp 46), (2, .tmp 48)], some 49, none)) (by kernel_rfl)
  have h3' : o.guard = none := h3
  have h2' : o.dst = some 49 := h2
  clear h2 h3
  refine wpOp_val (w' := x) ho h3' (v := val n 49) ?_ (by rw [h2']; exact hJ.quiet 37 49 (by decide) (by decide) (by decide) (by decide) (fun h => absurd h (by decide)))
  rw [vl49]
  exact sh_b2 h1 ((hJ.at hr 46 ⟨by decide, by decide⟩ (by kernel_rfl)).trans (vl46 n)) ((hJ.at hr 48 ⟨by decide, by decide⟩ (by kernel_rfl)).trans (vl48 n))
set_option maxRecDepth 100000 in
theorem opS38 {n : Nat} {x0 x : World} {listed : Array Bool} {a : Act} {Q : Exit → Act → World → Prop} (_X : X0 n x0) (hJ : OJ n x0 listed a x) (_hr : 38 ∈ Region.ready .any (opsOf Tryz.f14 5) listed) : wpOp Tryz.prog (opsOf Tryz.f14 5) Q 38 (OJ n x0 (listed.setIfInBounds 38 true)) a x := by
  obtain ⟨o, ho, h1, h2, h3⟩ := op_at (ops := (opsOf Tryz.f14 5)) (i := 38) (e := (.fieldAddr 74 (.tmp 1) 0, some 50, none)) (by kernel_rfl)
  have h3' : o.guard = none := h3
  have h2' : o.dst = some 50 := h2
  clear h2 h3
  refine wpOp_val (w' := x) ho h3' (v := val n 50) ?_ (by rw [h2']; exact hJ.quiet 38 50 (by decide) (by decide) (by decide) (by decide) (fun h => absurd h (by decide)))
  rw [vl50]
  exact sh_fa h1 ((hJ.kn 1 (.inl ⟨by decide, by decide⟩)).trans (by kernel_rfl))
set_option maxRecDepth 100000 in
theorem opS39 {n : Nat} {x0 x : World} {listed : Array Bool} {a : Act} {Q : Exit → Act → World → Prop} (X : X0 n x0) (hJ : OJ n x0 listed a x) (hr : 39 ∈ Region.ready .any (opsOf Tryz.f14 5) listed) : wpOp Tryz.prog (opsOf Tryz.f14 5) Q 39 (OJ n x0 (listed.setIfInBounds 39 true)) a x := by
  obtain ⟨o, ho, h1, h2, h3⟩ := op_at (ops := (opsOf Tryz.f14 5)) (i := 39) (e := (.load 50 (.tmp 50), some 51, none)) (by kernel_rfl)
  have h3' : o.guard = none := h3
  have h2' : o.dst = some 51 := h2
  clear h2 h3
  refine wpOp_val (w' := x) ho h3' (v := val n 51) ?_ (by rw [h2']; exact hJ.quiet 39 51 (by decide) (by decide) (by decide) (by decide) (fun h => absurd h (by decide)))
  rw [vl51]
  exact sh_ld1 h1 ((hJ.at hr 50 ⟨by decide, by decide⟩ (by kernel_rfl)).trans (vl50 n)) (hJ.cell X.a0)
set_option maxRecDepth 100000 in
theorem opS40 {n : Nat} {x0 x : World} {listed : Array Bool} {a : Act} {Q : Exit → Act → World → Prop} (X : X0 n x0) (hJ : OJ n x0 listed a x) (_hr : 40 ∈ Region.ready .any (opsOf Tryz.f14 5) listed) : wpOp Tryz.prog (opsOf Tryz.f14 5) Q 40 (OJ n x0 (listed.setIfInBounds 40 true)) a x := by
  obtain ⟨o, ho, h1, h2, h3⟩ := op_at (ops := (opsOf Tryz.f14 5)) (i := 40) (e := (.load 74 (.tmp 1), some 52, none)) (by kernel_rfl)
  have h3' : o.guard = none := h3
  have h2' : o.dst = some 52 := h2
  clear h2 h3
  refine wpOp_val (w' := x) ho h3' (v := val n 52) ?_ (by rw [h2']; exact hJ.quiet 40 52 (by decide) (by decide) (by decide) (by decide) (fun h => absurd h (by decide)))
  rw [vl52]
  exact sh_ld2 h1 ((hJ.kn 1 (.inl ⟨by decide, by decide⟩)).trans (by kernel_rfl)) (hJ.cell X.a0) (hJ.cell X.a1)
set_option maxRecDepth 100000 in
theorem opS41 {n : Nat} {x0 x : World} {listed : Array Bool} {a : Act} {Q : Exit → Act → World → Prop} (_X : X0 n x0) (hJ : OJ n x0 listed a x) (hr : 41 ∈ Region.ready .any (opsOf Tryz.f14 5) listed) : wpOp Tryz.prog (opsOf Tryz.f14 5) Q 41 (OJ n x0 (listed.setIfInBounds 41 true)) a x := by
  obtain ⟨o, ho, h1, h2, h3⟩ := op_at (ops := (opsOf Tryz.f14 5)) (i := 41) (e := (.makeFunc (.func 31) #[.tmp 52] #[], some 53, none)) (by kernel_rfl)
  have h3' : o.guard = none := h3
  have h2' : o.dst = some 53 := h2
  clear h2 h3
  refine wpOp_val (w' := x) ho h3' (v := val n 53) ?_ (by rw [h2']; exact hJ.quiet 41 53 (by decide) (by decide) (by decide) (by decide) (fun h => absurd h (by decide)))
  rw [vl53]
  exact sh_mf h1 ((hJ.at hr 52 ⟨by decide, by decide⟩ (by kernel_rfl)).trans (vl52 n))
set_option maxRecDepth 100000 in
theorem opS42 {n : Nat} {x0 x : World} {listed : Array Bool} {a : Act} {Q : Exit → Act → World → Prop} (_X : X0 n x0) (hJ : OJ n x0 listed a x) (hr : 42 ∈ Region.ready .any (opsOf Tryz.f14 5) listed) : wpOp Tryz.prog (opsOf Tryz.f14 5) Q 42 (OJ n x0 (listed.setIfInBounds 42 true)) a x := by
  obtain ⟨o, ho, h1, h2, h3⟩ := op_at (ops := (opsOf Tryz.f14 5)) (i := 42) (e := (.build 53 #[(0, .const (.string ⟨#[83, 116, 114, 105, 110, 103, 76, 101, 115, 115, 84, 104, 97, 110, 69, 113, 117, 97, 108, 115, 80, 97, 116, 104]⟩)), (1, .tmp 51), (2, .tmp 53), (3, .const (.bool true))], some 54, none)) (by kernel_rfl)
  have h3' : o.guard = none := h3
  have h2' : o.dst = some 54 := h2
  clear h2 h3
  refine wpOp_val (w' := x) ho h3' (v := val n 54) ?_ (by rw [h2']; exact hJ.quiet 42 54 (by decide) (by decide) (by decide) (by decide) (fun h => absurd h (by decide)))
  rw [vl54]
  exact sh_b3 h1 ((hJ.at hr 51 ⟨by decide, by decide⟩ (by kernel_rfl)).trans (vl51 n)) ((hJ.at hr 53 ⟨by decide, by decide⟩ (by kernel_rfl)).trans (vl53 n))
set_option maxRecDepth 100000 in
theorem opS43 {n : Nat} {x0 x : World} {listed : Array Bool} {a : Act} {Q : Exit → Act → World → Prop} (_X : X0 n x0) (hJ : OJ n x0 listed a x) (_hr : 43 ∈ Region.ready .any (opsOf Tryz.f14 5) listed) : wpOp Tryz.prog (opsOf Tryz.f14 5) Q 43 (OJ n x0 (listed.setIfInBounds 43 true)) a x := by
  obtain ⟨o, ho, h1, h2, h3⟩ := op_at (ops := (opsOf Tryz.f14 5)) (i := 43) (e := (.fieldAddr 74 (.tmp 1) 0, some 55, none)) (by kernel_rfl)
  have h3' : o.guard = none := h3
  have h2' : o.dst = some 55 := h2
  clear h2 h3
  refine wpOp_val (w' := x) ho h3' (v := val n 55) ?_ (by rw [h2']; exact hJ.quiet 43 55 (by decide) (by decide) (by decide) (by decide) (fun h => absurd h (by decide)))
  rw [vl55]
  exact sh_fa h1 ((hJ.kn 1 (.inl ⟨by decide, by decide⟩)).trans (by kernel_rfl))
set_option maxRecDepth 100000 in
theorem opS44 {n : Nat} {x0 x : World} {listed : Array Bool} {a : Act} {Q : Exit → Act → World → Prop} (X : X0 n x0) (hJ : OJ n x0 listed a x) (hr : 44 ∈ Region.ready .any (opsOf Tryz.f14 5) listed) : wpOp Tryz.prog (opsOf Tryz.f14 5) Q 44 (OJ n x0 (listed.setIfInBounds 44 true)) a x := by
  obtain ⟨o, ho, h1, h2, h3⟩ := op_at (ops := (opsOf Tryz.f14 5)) (i := 44) (e := (.load 50 (.tmp 55), some 56, none)) (by kernel_rfl)
  have h3' : o.guard = none := h3
  have h2' : o.dst = some 56 := h2
  clear h2 h3
  refine wpOp_val (w' := x) ho h3' (v := val n 56) ?_ (by rw [h2']; exact hJ.quiet 44 56 (by decide) (by decide) (by decide) (by decide) (fun h => absurd h (by decide)))
  rw [vl56]
  exact sh_ld1 h1 ((hJ.at hr 55 ⟨by decide, by decide⟩ (by kernel_rfl)).trans (vl55 n)) (hJ.cell X.a0)
set_option maxRecDepth 100000 in
theorem opS45 {n : Nat} {x0 x : World} {listed : Array Bool} {a : Act} {Q : Exit → Act → World → Prop} (X : X0 n x0) (hJ : OJ n x0 listed a x) (_hr : 45 ∈ Region.ready .any (opsOf Tryz.f14 5) listed) : wpOp Tryz.prog (opsOf Tryz.f14 5) Q 45 (OJ n x0 (listed.setIfInBounds 45 true)) a x := by
  obtain ⟨o, ho, h1, h2, h3⟩ := op_at (ops := (opsOf Tryz.f14 5)) (i := 45) (e := (.load 74 (.tmp 1), some 57, none)) (by kernel_rfl)
  have h3' : o.guard = none := h3
  have h2' : o.dst = some 57 := h2
  clear h2 h3
  refine wpOp_val (w' := x) ho h3' (v := val n 57) ?_ (by rw [h2']; exact hJ.quiet 45 57 (by decide) (by decide) (by decide) (by decide) (fun h => absurd h (by decide)))
  rw [vl57]
  exact sh_ld2 h1 ((hJ.kn 1 (.inl ⟨by decide, by decide⟩)).trans (by kernel_rfl)) (hJ.cell X.a0) (hJ.cell X.a1)
set_option maxRecDepth 100000 in
theorem opS46 {n : Nat} {x0 x : World} {listed : Array Bool} {a : Act} {Q : Exit → Act → World → Prop} (_X : X0 n x0) (hJ : OJ n x0 listed a x) (hr : 46 ∈ Region.ready .any (opsOf Tryz.f14 5) listed) : wpOp Tryz.prog (opsOf Tryz.f14 5) Q 46 (OJ n x0 (listed.setIfInBounds 46 true)) a x := by
  obtain ⟨o, ho, h1, h2, h3⟩ := op_at (ops := (opsOf Tryz.f14 5)) (i := 46) (e := (.makeFunc (.func 32) #[.tmp 57] #[], some 58, none)) (by kernel_rfl)
  have h3' : o.guard = none := h3
  have h2' : o.dst = some 58 := h2
  clear h2 h3
  refine wpOp_val (w' := x) ho h3' (v := val n 58) ?_ (by rw [h2']; exact hJ.quiet 46 58 (by decide) (by decide) (by decide) (by decide) (fun h => absurd h (by decide)))
  rw [vl58]
  exact sh_mf h1 ((hJ.at hr 57 ⟨by decide, by decide⟩ (by kernel_rfl)).trans (vl57 n))
set_option maxRecDepth 100000 in
theorem opS47 {n : Nat} {x0 x : World} {listed : Array Bool} {a : Act} {Q : Exit → Act → World → Prop} (_X : X0 n x0) (hJ : OJ n x0 listed a x) (hr : 47 ∈ Region.ready .any (opsOf Tryz.f14 5) listed) : wpOp Tryz.prog (opsOf Tryz.f14 5) Q 47 (OJ n x0 (listed.setIfInBounds 47 true)) a x := by
  obtain ⟨o, ho, h1, h2, h3⟩ := op_at (ops := (opsOf Tryz.f14 5)) (i := 47) (e := (.build 53 #[(0, .const (.string ⟨#[83, 116, 114, 105, 110, 103, 71, 114, 101, 97, 116, 101, 114, 84, 104, 97, 110, 69, 113, 117, 97, 108, 115]⟩)), (1, .tmp 56), (2, .tmp 58)], some 59, none)) (by kernel_rfl)
  have h3' : o.guard = none := h3
  have h2' : o.dst = some 59 := h2
  clear h2 h3
  refine wpOp_val (w' := x) ho h3' (v := val n 59) ?_ (by rw [h2']; exact hJ.quiet 47 59 (by decide) (by decide) (by decide) (by decide) (fun h => absurd h (by decide)))
  rw [vl59]
  exact sh_b2 h1 ((hJ.at hr 56 ⟨by decide, by decide⟩ (by kernel_rfl)).trans (vl56 n)) ((hJ.at hr 58 ⟨by decide, by decide⟩ (by kernel_rfl)).trans (vl58 n))
set_option maxRecDepth 100000 in
theorem opS48 {n : Nat} {x0 x : World} {listed : Array Bool} {a : Act} {Q : Exit → Act → World → Prop} (_X : X0 n x0) (hJ : OJ n x0 listed a x) (_hr : 48 ∈ Region.ready .any (opsOf Tryz.f14 5) listed) : wpOp Tryz.prog (opsOf Tryz.f14 5) Q 48 (OJ n x0 (listed.setIfInBounds 48 true)) a x := by
  obtain ⟨o, ho, h1, h2, h3⟩ := op_at (ops := (opsOf Tryz.f14 5)) (i := 48) (e := (.fieldAddr 74 (.tmp 1) 0, some 60, none)) (by kernel_rfl)
  have h3' : o.guard = none := h3
  have h2' : o.dst = some 60 := h2
  clear h2 h3
  refine wpOp_val (w' := x) ho h3' (v := val n 60) ?_ (by rw [h2']; exact hJ.quiet 48 60 (by decide) (by decide) (by decide) (by decide) (fun h => absurd h (by decide)))
  rw [vl60]
  exact sh_fa h1 ((hJ.kn 1 (.inl ⟨by decide, by decide⟩)).trans (by kernel_rfl))
set_option maxRecDepth 100000 in
theorem opS49 {n : Nat} {x0 x : World} {listed : Array Bool} {a : Act} {Q : Exit → Act → World → Prop} (X : X0 n x0) (hJ : OJ n x0 listed a x) (hr : 49 ∈ Region.ready .any (opsOf Tryz.f14 5) listed) : wpOp Tryz.prog (opsOf Tryz.f14 5) Q 49 (OJ n x0 (listed.setIfInBounds 49 true)) a x := by
  obtain ⟨o, ho, h1, h2, h3⟩ := op_at (ops := (opsOf Tryz.f14 5)) (i := 49) (e := (.load 50 (.tmp 60), some 61, none)) (by kernel_rfl)
  have h3' : o.guard = none := h3
  have h2' : o.dst = some 61 := h2
  clear h2 h3
  refine wpOp_val (w' := x) ho h3' (v := val n 61) ?_ (by rw [h2']; exact hJ.quiet 49 61 (by decide) (by decide) (by decide) (by decide) (fun h => absurd h (by decide)))
  rw [vl61]
  exact sh_ld1 h1 ((hJ.at hr 60 ⟨by decide, by decide⟩ (by kernel_rfl)).trans (vl60 n)) (hJ.cell X.a0)
set_option maxRecDepth 100000 in
theorem opS50 {n : Nat} {x0 x : World} {listed : Array Bool} {a : Act} {Q : Exit → Act → World → Prop} (X : X0 n x0) (hJ : OJ n x0 listed a x) (_hr : 50 ∈ Region.ready .any (opsOf Tryz.f14 5) listed) : wpOp Tryz.prog (opsOf Tryz.f14 5) Q 50 (OJ n x0 (listed.setIfInBounds 50 true)) a x := by
  obtain ⟨o, ho, h1, h2, h3⟩ := op_at (ops := (opsOf Tryz.f14 5)) (i := 50) (e := (.load 74 (.tmp 1), some 62, none)) (by kernel_rfl)
  have h3' : o.guard = none := h3
  have h2' : o.dst = some 62 := h2
  clear h2 h3
  refine wpOp_val (w' := x) ho h3' (v := val n 62) ?_ (by rw [h2']; exact hJ.quiet 50 62 (by decide) (by decide) (by decide) (by decide) (fun h => absurd h (by decide)))
  rw [vl62]
  exact sh_ld2 h1 ((hJ.kn 1 (.inl ⟨by decide, by decide⟩)).trans (by kernel_rfl)) (hJ.cell X.a0) (hJ.cell X.a1)
set_option maxRecDepth 100000 in
theorem opS51 {n : Nat} {x0 x : World} {listed : Array Bool} {a : Act} {Q : Exit → Act → World → Prop} (_X : X0 n x0) (hJ : OJ n x0 listed a x) (hr : 51 ∈ Region.ready .any (opsOf Tryz.f14 5) listed) : wpOp Tryz.prog (opsOf Tryz.f14 5) Q 51 (OJ n x0 (listed.setIfInBounds 51 true)) a x := by
  obtain ⟨o, ho, h1, h2, h3⟩ := op_at (ops := (opsOf Tryz.f14 5)) (i := 51) (e := (.makeFunc (.func 32) #[.tmp 62] #[], some 63, none)) (by kernel_rfl)
  have h3' : o.guard = none := h3
  have h2' : o.dst = some 63 := h2
  clear h2 h3
  refine wpOp_val (w' := x) ho h3' (v := val n 63) ?_ (by rw [h2']; exact hJ.quiet 51 63 (by decide) (by decide) (by decide) (by decide) (fun h => absurd h (by decide)))
  rw [vl63]
  exact sh_mf h1 ((hJ.at hr 62 ⟨by decide, by decide⟩ (by kernel_rfl)).trans (vl62 n))
set_option maxRecDepth 100000 in
theorem opS52 {n : Nat} {x0 x : World} {listed : Array Bool} {a : Act} {Q : Exit → Act → World → Prop} (_X : X0 n x0) (hJ : OJ n x0 listed a x) (hr : 52 ∈ Region.ready .any (opsOf Tryz.f14 5) listed) : wpOp Tryz.prog (opsOf Tryz.f14 5) Q 52 (OJ n x0 (listed.setIfInBounds 52 true)) a x := by
  obtain ⟨o, ho, h1, h2, h3⟩ := op_at (ops := (opsOf Tryz.f14 5)) (i := 52) (e := (.build 53 #[(0, .const (.string ⟨#[83, 116, 114, 105, 110, 103, 71, 114, 101, 97, 116, 101, 114, 84, 104, 97, 110, 69, 113, 117, 97, 108, 115, 80, 97, 116, 104]⟩)), (1, .tmp 61), (2, .tmp 63), (3, .const (.bool true))], some 64, none)) (by kernel_rfl)
  have h3' : o.guard = none := h3
  have h2' : o.dst = some 64 := h2
  clear h2 h3
  refine wpOp_val (w' := x) ho h3' (v := val n 64) ?_ (by rw [h2']; exact hJ.quiet 52 64 (by decide) (by decide) (by decide) (by decide) (fun h => absurd h (by decide)))
  rw [vl64]
  exact sh_b3 h1 ((hJ.at hr 61 ⟨by decide, by decide⟩ (by kernel_rfl)).trans (vl61 n)) ((hJ.at hr 63 ⟨by decide, by decide⟩ (by kernel_rfl)).trans (vl63 n))
set_option maxRecDepth 100000 in
theorem opS53 {n : Nat} {x0 x : World} {listed : Array Bool} {a : Act} {Q : Exit → Act → World → Prop} (_X : X0 n x0) (hJ : OJ n x0 listed a x) (_hr : 53 ∈ Region.ready .any (opsOf Tryz.f14 5) listed) : wpOp Tryz.prog (opsOf Tryz.f14 5) Q 53 (OJ n x0 (listed.setIfInBounds 53 true)) a x := by
  obtain ⟨o, ho, h1, h2, h3⟩ := op_at (ops := (opsOf Tryz.f14 5)) (i := 53) (e := (.fieldAddr 74 (.tmp 1) 0, some 65, none)) (by kernel_rfl)
  have h3' : o.guard = none := h3
  have h2' : o.dst = some 65 := h2
  clear h2 h3
  refine wpOp_val (w' := x) ho h3' (v := val n 65) ?_ (by rw [h2']; exact hJ.quiet 53 65 (by decide) (by decide) (by decide) (by decide) (fun h => absurd h (by decide)))
  rw [vl65]
  exact sh_fa h1 ((hJ.kn 1 (.inl ⟨by decide, by decide⟩)).trans (by kernel_rfl))
set_option maxRecDepth 100000 in
theorem opS54 {n : Nat} {x0 x : World} {listed : Array Bool} {a : Act} {Q : Exit → Act → World → Prop} (X : X0 n x0) (hJ : OJ n x0 listed a x) (hr : 54 ∈ Region.ready .any (opsOf Tryz.f14 5) listed) : wpOp Tryz.prog (opsOf Tryz.f14 5) Q 54 (OJ n x0 (listed.setIfInBounds 54 true)) a x := by
  obtain ⟨o, ho, h1, h2, h3⟩ := op_at (ops := (opsOf Tryz.f14 5)) (i := 54) (e := (.load 50 (.tmp 65), some 66, none)) (by kernel_rfl)
  have h3' : o.guard = none := h3
  have h2' : o.dst = some 66 := h2
  clear h2 h3
  refine wpOp_val (w' := x) ho h3' (v := val n 66) ?_ (by rw [h2']; exact hJ.quiet 54 66 (by decide) (by decide) (by decide) (by decide) (fun h => absurd h (by decide)))
  rw [vl66]
  exact sh_ld1 h1 ((hJ.at hr 65 ⟨by decide, by decide⟩ (by kernel_rfl)).trans (vl65 n)) (hJ.cell X.a0)
set_option maxRecDepth 100000 in
theorem opS55 {n : Nat} {x0 x : World} {listed : Array Bool} {a : Act} {Q : Exit → Act → World → Prop} (_X : X0 n x0) (hJ : OJ n x0 listed a x) (hr : 55 ∈ Region.ready .any (opsOf Tryz.f14 5) listed) : wpOp Tryz.prog (opsOf Tryz.f14 5) Q 55 (OJ n x0 (listed.setIfInBounds 55 true)) a x := by
  obtain ⟨o, ho, h1, h2, h3⟩ := op_at (ops := (opsOf Tryz.f14 5)) (i := 55) (e := (.build 53 #[(0, .const (.string ⟨#[83, 116, 114, 105, 110, 103, 77, 97, 116, 99, 104, 101, 115]⟩)), (1, .tmp 66), (2, .func 33)], some 67, none)) (by kernel_rfl)
  have h3' : o.guard = none := h3
  have h2' : o.dst = some 67 := h2
  clear h2 h3
  refine wpOp_val (w' := x) ho h3' (v := val n 67) ?_ (by rw [h2']; exact hJ.quiet 55 67 (by decide) (by decide) (by decide) (by decide) (fun h => absurd h (by decide)))
  rw [vl67]
  exact sh_b2p h1 ((hJ.at hr 66 ⟨by decide, by decide⟩ (by kernel_rfl)).trans (vl66 n))
set_option maxRecDepth 100000 in
theorem opS56 {n : Nat} {x0 x : World} {listed : Array Bool} {a : Act} {Q : Exit → Act → World → Prop} (_X : X0 n x0) (hJ : OJ n x0 listed a x) (_hr : 56 ∈ Region.ready .any (opsOf Tryz.f14 5) listed) : wpOp Tryz.prog (opsOf Tryz.f14 5) Q 56 (OJ n x0 (listed.setIfInBounds 56 true)) a x := by
  obtain ⟨o, ho, h1, h2, h3⟩ := op_at (ops := (opsOf Tryz.f14 5)) (i := 56) (e := (.fieldAddr 74 (.tmp 2) 0, some 68, none)) (by kernel_rfl)
  have h3' : o.guard = none := h3
  have h2' : o.dst = some 68 := h2
  clear h2 h3
  refine wpOp_val (w' := x) ho h3' (v := val n 68) ?_ (by rw [h2']; exact hJ.quiet 56 68 (by decide) (by decide) (by decide) (by decide) (fun h => absurd h (by decide)))
  rw [vl68]
  exact sh_fa h1 ((hJ.kn 2 (.inl ⟨by decide, by decide⟩)).trans (by kernel_rfl))
set_option maxRecDepth 100000 in
theorem opS57 {n : Nat} {x0 x : World} {listed : Array Bool} {a : Act} {Q : Exit → Act → World → Prop} (X : X0 n x0) (hJ : OJ n x0 listed a x) (hr : 57 ∈ Region.ready .any (opsOf Tryz.f14 5) listed) : wpOp Tryz.prog (opsOf Tryz.f14 5) Q 57 (OJ n x0 (listed.setIfInBounds 57 true)) a x := by
  obtain ⟨o, ho, h1, h2, h3⟩ := op_at (ops := (opsOf Tryz.f14 5)) (i := 57) (e := (.load 50 (.tmp 68), some 69, none)) (by kernel_rfl)
  have h3' : o.guard = none := h3
  have h2' : o.dst = some 69 := h2
  clear h2 h3
  refine wpOp_val (w' := x) ho h3' (v := val n 69) ?_ (by rw [h2']; exact hJ.quiet 57 69 (by decide) (by decide) (by decide) (by decide) (fun h => absurd h (by decide)))
  rw [vl69]
  exact sh_ld1 h1 ((hJ.at hr 68 ⟨by decide, by decide⟩ (by kernel_rfl)).trans (vl68 n)) (hJ.cell X.b0)
set_option maxRecDepth 100000 in
theorem opS58 {n : Nat} {x0 x : World} {listed : Array Bool} {a : Act} {Q : Exit → Act → World → Prop} (X : X0 n x0) (hJ : OJ n x0 listed a x) (_hr : 58 ∈ Region.ready .any (opsOf Tryz.f14 5) listed) : wpOp Tryz.prog (opsOf Tryz.f14 5) Q 58 (OJ n x0 (listed.setIfInBounds 58 true)) a x := by
  obtain ⟨o, ho, h1, h2, h3⟩ := op_at (ops := (opsOf Tryz.f14 5)) (i := 58) (e := (.load 74 (.tmp 2), some 70, none)) (by kernel_rfl)
  have h3' : o.guard = none := h3
  have h2' : o.dst = some 70 := h2
  clear h2 h3
  refine wpOp_val (w' := x) ho h3' (v := val n 70) ?_ (by rw [h2']; exact hJ.quiet 58 70 (by decide) (by decide) (by decide) (by decide) (fun h => absurd h (by decide)))
  rw [vl70]
  exact sh_ld2 h1 ((hJ.kn 2 (.inl ⟨by decide, by decide⟩)).trans (by kernel_rfl)) (hJ.cell X.b0) (hJ.cell X.b1)
set_option maxRecDepth 100000 in
theorem opS59 {n : Nat} {x0 x : World} {listed : Array Bool} {a : Act} {Q : Exit → Act → World → Prop} (_X : X0 n x0) (hJ : OJ n x0 listed a x) (hr : 59 ∈ Region.ready .any (opsOf Tryz.f14 5) listed) : wpOp Tryz.prog (opsOf Tryz.f14 5) Q 59 (OJ n x0 (listed.setIfInBounds 59 true)) a x := by
  obtain ⟨o, ho, h1, h2, h3⟩ := op_at (ops := (opsOf Tryz.f14 5)) (i := 59) (e := (.makeFunc (.func 28) #[.tmp 70] #[], some 71, none)) (by kernel_rfl)
  have h3' : o.guard = none := h3
  have h2' : o.dst = some 71 := h2
  clear h2 h3
  refine wpOp_val (w' := x) ho h3' (v := val n 71) ?_ (by rw [h2']; exact hJ.quiet 59 71 (by decide) (by decide) (by decide) (by decide) (fun h => absurd h (by decide)))
  rw [vl71]
  exact sh_mf h1 ((hJ.at hr 70 ⟨by decide, by decide⟩ (by kernel_rfl)).trans (vl70 n))
set_option maxRecDepth 100000 in
theorem opS60 {n : Nat} {x0 x : World} {listed : Array Bool} {a : Act} {Q : Exit → Act → World → Prop} (_X : X0 n x0) (hJ : OJ n x0 listed a x) (hr : 60 ∈ Region.ready .any (opsOf Tryz.f14 5) listed) : wpOp Tryz.prog (opsOf Tryz.f14 5) Q 60 (OJ n x0 (listed.setIfInBounds 60 true)) a x := by
  obtain ⟨o, ho, h1, h2, h3⟩ := op_at (ops := (opsOf Tryz.f14 5)) (i := 60) (e := (.build 53 #[(0, .const (.string ⟨#[78, 117, 109, 101, 114, 105, 99, 69, 113, 117, 97, 108, 115]⟩)), (1, .tmp 69), (2, .tmp 71)], some 72, none)) (by kernel_rfl)
  have h3' : o.guard = none := h3
  have h2' : o.dst = some 72 := h2
  clear h2 h3
  refine wpOp_val (w' := x) ho h3' (v := val n 72) ?_ (by rw [h2']; exact hJ.quiet 60 72 (by decide) (by decide) (by decide) (by decide) (fun h => absurd h (by decide)))
  rw [vl72]
  exact sh_b2 h1 ((hJ.at hr 69 ⟨by decide, by decide⟩ (by kernel_rfl)).trans (vl69 n)) ((hJ.at hr 71 ⟨by decide, by decide⟩ (by kernel_rfl)).trans (vl71 n))
set_option maxRecDepth 100000 in
theorem opS61 {n : Nat} {x0 x : World} {listed : Array Bool} {a : Act} {Q : Exit → Act → World → Prop} (_X : X0 n x0) (hJ : OJ n x0 listed a x) (_hr : 61 ∈ Region.ready .any (opsOf Tryz.f14 5) listed) : wpOp Tryz.prog (opsOf Tryz.f14 5) Q 61 (OJ n x0 (listed.setIfInBounds 61 true)) a x := by
  obtain ⟨o, ho, h1, h2, h3⟩ := op_at (ops := (opsOf Tryz.f14 5)) (i := 61) (e := (.fieldAddr 74 (.tmp 2) 0, some 73, none)) (by kernel_rfl)
  have h3' : o.guard = none := h3
  have h2' : o.dst = some 73 := h2
  clear h2 h3
  refine wpOp_val (w' := x) ho h3' (v := val n 73) ?_ (by rw [h2']; exact hJ.quiet 61 73 (by decide) (by decide) (by decide) (by decide) (fun h => absurd h (by decide)))
  rw [vl73]
  exact sh_fa h1 ((hJ.kn 2 (.inl ⟨by decide, by decide⟩)).trans (by kernel_rfl))
set_option maxRecDepth 100000 in
theorem opS62 {n : Nat} {x0 x : World} {listed : Array Bool} {a : Act} {Q : Exit → Act → World → Prop} (X : X0 n x0) (hJ : OJ n x0 listed a x) (hr : 62 ∈ Region.ready .any (opsOf Tryz.f14 5) listed) : wpOp Tryz.prog (opsOf Tryz.f14 5) Q 62 (OJ n x0 (listed.setIfInBounds 62 true)) a x := by
  obtain ⟨o, ho, h1, h2, h3⟩ := op_at (ops := (opsOf Tryz.f14 5)) (i := 62) (e := (.load 50 (.tmp 73), some 74, none)) (by kernel_rfl)
  have h3' : o.guard = none := h3
  have h2' : o.dst = some 74 := h2
  clear h2 h3
  refine wpOp_val (w' := x) ho h3' (v := val n 74) ?_ (by rw [h2']; exact hJ.quiet 62 74 (by decide) (by decide) (by decide) (by decide) (fun h => absurd h (by decide)))
  rw [vl74]
  exact sh_ld1 h1 ((hJ.at hr 73 ⟨by decide, by decide⟩ (by kernel_rfl)).trans (vl73 n)) (hJ.cell X.b0)
set_option maxRecDepth 100000 in
theorem opS63 {n : Nat} {x0 x : World} {listed : Array Bool} {a : Act} {Q : Exit → Act → World → Prop} (X : X0 n x0) (hJ : OJ n x0 listed a x) (_hr : 63 ∈ Region.ready .any (opsOf Tryz.f14 5) listed) : wpOp Tryz.prog (opsOf Tryz.f14 5) Q 63 (OJ n x0 (listed.setIfInBounds 63 true)) a x := by
  obtain ⟨o, ho, h1, h2, h3⟩ := op_at (ops := (opsOf Tryz.f14 5)) (i := 63) (e := (.load 74 (.tmp 2), some 75, none)) (by kernel_rfl)
  have h3' : o.guard = none := h3
  have h2' : o.dst = some 75 := h2
  clear h2 h3
  refine wpOp_val (w' := x) ho h3' (v := val n 75) ?_ (by rw [h2']; exact hJ.quiet 63 75 (by decide) (by decide) (by decide) (by decide) (fun h => absurd h (by decide)))
  rw [vl75]
  exact sh_ld2 h1 ((hJ.kn 2 (.inl ⟨by decide, by decide⟩)).trans (by kernel_rfl)) (hJ.cell X.b0) (hJ.cell X.b1)
set_option maxRecDepth 100000 in
theorem opS64 {n : Nat} {x0 x : World} {listed : Array Bool} {a : Act} {Q : Exit → Act → World → Prop} (_X : X0 n x0) (hJ : OJ n x0 listed a x) (hr : 64 ∈ Region.ready .any (opsOf Tryz.f14 5) listed) : wpOp Tryz.prog (opsOf Tryz.f14 5) Q 64 (OJ n x0 (listed.setIfInBounds 64 true)) a x := by
  obtain ⟨o, ho, h1, h2, h3⟩ := op_at (ops := (opsOf Tryz.f14 5)) (i := 64) (e := (.makeFunc (.func 28) #[.tmp 75] #[], some 76, none)) (by kernel_rfl)
  have h3' : o.guard = none := h3
  have h2' : o.dst = some 76 := h2
  clear h2 h3
  refine wpOp_val (w' := x) ho h3' (v := val n 76) ?_ (by rw [h2']; exact hJ.quiet 64 76 (by decide) (by decide) (by decide) (by decide) (fun h => absurd h (by decide)))
  rw [vl76]
  exact sh_mf h1 ((hJ.at hr 75 ⟨by decide, by decide⟩ (by kernel_rfl)).trans (vl75 n))
set_option maxRecDepth 100000 in
theorem opS65 {n : Nat} {x0 x : World} {listed : Array Bool} {a : Act} {Q : Exit → Act → World → Prop} (_X : X0 n x0) (hJ : OJ n x0 listed a x) (hr : 65 ∈ Region.ready .any (opsOf Tryz.f14 5) listed) : wpOp Tryz.prog (opsOf Tryz.f14 5) Q 65 (OJ n x0 (listed.setIfInBounds 65 true)) a x := by
  obtain ⟨o, ho, h1, h2, h3⟩ := op_at (ops := (opsOf Tryz.f14 5)) (i := 65) (e := (.build 53 #[(0, .const (.string ⟨#[78, 117, 109, 101, 114, 105, 99, 69, 113, 117, 97, 108, 115, 80, 97, 116, 104]⟩)), (1, .tmp 74), (2, .tmp 76), (3, .const (.bool true))], some 77, none)) (by kernel_rfl)
  have h3' : o.guard = none := h3
  have h2' : o.dst = some 77 := h2
  clear h2 h3
  refine wpOp_val (w' := x) ho h3' (v := val n 77) ?_ (by rw [h2']; exact hJ.quiet 65 77 (by decide) (by decide) (by decide) (by decide) (fun h => absurd h (by decide)))
  rw [vl77]
  exact sh_b3 h1 ((hJ.at hr 74 ⟨by decide, by decide⟩ (by kernel_rfl)).trans (vl74 n)) ((hJ.at hr 76 ⟨by decide, by decide⟩ (by kernel_rfl)).trans (vl76 n))
set_option maxRecDepth 100000 in
theorem opS66 {n : Nat} {x0 x : World} {listed : Array Bool} {a : Act} {Q : Exit → Act → World → Prop} (_X : X0 n x0) (hJ : OJ n x0 listed a x) (_hr : 66 ∈ Region.ready .any (opsOf Tryz.f14 5) listed) : wpOp Tryz.prog (opsOf Tryz.f14 5) Q 66 (OJ n x0 (listed.setIfInBounds 66 true)) a x := by
  obtain ⟨o, ho, h1, h2, h3⟩ := op_at (ops := (opsOf Tryz.f14 5)) (i := 66) (e := (.fieldAddr 74 (.tmp 2) 0, some 78, none)) (by kernel_rfl)
  have h3' : o.guard = none := h3
  have h2' : o.dst = some 78 := h2
  clear h2 h3
  refine wpOp_val (w' := x) ho h3' (v := val n 78) ?_ (by rw [h2']; exact hJ.quiet 66 78 (by decide) (by decide) (by decide) (by decide) (fun h => absurd h (by decide)))
  rw [vl78]
  exact sh_fa h1 ((hJ.kn 2 (.inl ⟨by decide, by decide⟩)).trans (by kernel_rfl))
set_option maxRecDepth 100000 in
theorem opS67 {n : Nat} {x0 x : World} {listed : Array Bool} {a : Act} {Q : Exit → Act → World → Prop} (X : X0 n x0) (hJ : OJ n x0 listed a x) (hr : 67 ∈ Region.ready .any (opsOf Tryz.f14 5) listed) : wpOp Tryz.prog (opsOf Tryz.f14 5) Q 67 (OJ n x0 (listed.setIfInBounds 67 true)) a x := by
  obtain ⟨o, ho, h1, h2, h3⟩ := op_at (ops := (opsOf Tryz.f14 5)) (i := 67) (e := (.load 50 (.tmp 78), some 79, none)) (by kernel_rfl)
  have h3' : o.guard = none := h3
  have h2' : o.dst = some 79 := h2
  clear h2 h3
  refine wpOp_val (w' := x) ho h3' (v := val n 79) ?_ (by rw [h2']; exact hJ.quiet 67 79 (by decide) (by decide) (by decide) (by decide) (fun h => absurd h (by decide)))
  rw [vl79]
  exact sh_ld1 h1 ((hJ.at hr 78 ⟨by decide, by decide⟩ (by kernel_rfl)).trans (vl78 n)) (hJ.cell X.b0)
set_option maxRecDepth 100000 in
theorem opS68 {n : Nat} {x0 x : World} {listed : Array Bool} {a : Act} {Q : Exit → Act → World → Prop} (X : X0 n x0) (hJ : OJ n x0 listed a x) (_hr : 68 ∈ Region.ready .any (opsOf Tryz.f14 5) listed) : wpOp Tryz.prog (opsOf Tryz.f14 5) Q 68 (OJ n x0 (listed.setIfInBounds 68 true)) a x := by
  obtain ⟨o, ho, h1, h2, h3⟩ := op_at (ops := (opsOf Tryz.f14 5)) (i := 68) (e := (.load 74 (.tmp 2), some 80, none)) (by kernel_rfl)
  have h3' : o.guard = none := h3
  have h2' : o.dst = some 80 := h2
  clear h2 h3
  refine wpOp_val (w' := x) ho h3' (v := val n 80) ?_ (by rw [h2']; exact hJ.quiet 68 80 (by decide) (by decide) (by decide) (by decide) (fun h => absurd h (by decide)))
  rw [vl80]
  exact sh_ld2 h1 ((hJ.kn 2 (.inl ⟨by decide, by decide⟩)).trans (by kernel_rfl)) (hJ.cell X.b0) (hJ.cell X.b1)
set_option maxRecDepth 100000 in
theorem opS69 {n : Nat} {x0 x : World} {listed : Array Bool} {a : Act} {Q : Exit → Act → World → Prop} (_X : X0 n x0) (hJ : OJ n x0 listed a x) (hr : 69 ∈ Region.ready .any (opsOf Tryz.f14 5) listed) : wpOp Tryz.prog (opsOf Tryz.f14 5) Q 69 (OJ n x0 (listed.setIfInBounds 69 true)) a x := by
  obtain ⟨o, ho, h1, h2, h3⟩ := op_at (ops := (opsOf Tryz.f14 5)) (i := 69) (e := (.makeFunc (.func 29) #[.tmp 80] #[], some 81, none)) (by kernel_rfl)
  have h3' : o.guard = none := h3
  have h2' : o.dst = some 81 := h2
  clear h2 h3
  refine wpOp_val (w' := x) ho h3' (v := val n 81) ?_ (by rw [h2']; exact hJ.quiet 69 81 (by decide) (by decide) (by decide) (by decide) (fun h => absurd h (by decide)))
  rw [vl81]
  exact sh_mf h1 ((hJ.at hr 80 ⟨by decide, by decide⟩ (by kernel_rfl)).trans (vl80 n))
set_option maxRecDepth 100000 in
theorem opS70 {n : Nat} {x0 x : World} {listed : Array Bool} {a : Act} {Q : Exit → Act → World → Prop} (_X : X0 n x0) (hJ : OJ n x0 listed a x) (hr : 70 ∈ Region.ready .any (opsOf Tryz.f14 5) listed) : wpOp Tryz.prog (opsOf Tryz.f14 5) Q 70 (OJ n x0 (listed.setIfInBounds 70 true)) a x := by
  obtain ⟨o, ho, h1, h2, h3⟩ := op_at (ops := (opsOf Tryz.f14 5)) (i := 70) (e := (.build 53 #[(0, .const (.string ⟨#[78, 117, 109, 101, 114, 105, 99, 76, 101, 115, 115, 84, 104, 97, 110]⟩)), (1, .tmp 79), (2, .tmp 81)], some 82, none)) (by kernel_rfl)
  have h3' : o.guard = none := h3
  have h2' : o.dst = some 82 := h2
  clear h2 h3
  refine wpOp_val (w' := x) ho h3' (v := val n 82) ?_ (by rw [h2']; exact hJ.quiet 70 82 (by decide) (by decide) (by decide) (by decide) (fun h => absurd h (by decide)))
  rw [vl82]
  exact sh_b2 h1 ((hJ.at hr 79 ⟨by decide, by decide⟩ (by kernel_rfl)).trans (vl79 n)) ((hJ.at hr 81 ⟨by decide, by decide⟩ (by kernel_rfl)).trans (vl81 n))
set_option maxRecDepth 100000 in
theorem opS71 {n : Nat} {x0 x : World} {listed : Array Bool} {a : Act} {Q : Exit → Act → World → Prop} (_X : X0 n x0) (hJ : OJ n x0 listed a x) (_hr : 71 ∈ Region.ready .any (opsOf Tryz.f14 5) listed) : wpOp Tryz.prog (opsOf Tryz.f14 5) Q 71 (OJ n x0 (listed.setIfInBounds 71 true)) a x := by
  obtain ⟨o, ho, h1, h2, h3⟩ := op_at (ops := (opsOf Tryz.f14 5)) (i := 71) (e := (.fieldAddr 74 (.tmp 2) 0, some 83, none)) (by kernel_rfl)
  have h3' : o.guard = none := h3
  have h2' : o.dst = some 83 := h2
  clear h2 h3
  refine wpOp_val (w' := x) ho h3' (v := val n 83) ?_ (by rw [h2']; exact hJ.quiet 71 83 (by decide) (by decide) (by decide) (by decide) (fun h => absurd h (by decide)))
  rw [vl83]
  exact sh_fa h1 ((hJ.kn 2 (.inl ⟨by decide, by decide⟩)).trans (by kernel_rfl))
set_option maxRecDepth 100000 in
theorem opS72 {n : Nat} {x0 x : World} {listed : Array Bool} {a : Act} {Q : Exit → Act → World → Prop} (X : X0 n x0) (hJ : OJ n x0 listed a x) (hr : 72 ∈ Region.ready .any (opsOf Tryz.f14 5) listed) : wpOp Tryz.prog (opsOf Tryz.f14 5) Q 72 (OJ n x0 (listed.setIfInBounds 72 true)) a x := by
  obtain ⟨o, ho, h1, h2, h3⟩ := op_at (ops := (opsOf Tryz.f14 5)) (i := 72) (e := (.load 50 (.tmp 83), some 84, none)) (by kernel_rfl)
  have h3' : o.guard = none := h3
  have h2' : o.dst = some 84 := h2
  clear h2 h3
  refine wpOp_val (w' := x) ho h3' (v := val n 84) ?_ (by rw [h2']; exact hJ.quiet 72 84 (by decide) (by decide) (by decide) (by decide) (fun h => absurd h (by decide)))
  rw [vl84]
  exact sh_ld1 h1 ((hJ.at hr 83 ⟨by decide, by decide⟩ (by kernel_rfl)).trans (vl83 n)) (hJ.cell X.b0)
set_option maxRecDepth 100000 in
theorem opS73 {n : Nat} {x0 x : World} {listed : Array Bool} {a : Act} {Q : Exit → Act → World → Prop} (X : X0 n x0) (hJ : OJ n x0 listed a x) (_hr : 73 ∈ Region.ready .any (opsOf Tryz.f14 5) listed) : wpOp Tryz.prog (opsOf Tryz.f14 5) Q 73 (OJ n x0 (listed.setIfInBounds 73 true)) a x := by
  obtain ⟨o, ho, h1, h2, h3⟩ := op_at (ops := (opsOf Tryz.f14 5)) (i := 73) (e := (.load 74 (.tmp 2), some 85, none)) (by kernel_rfl)
  have h3' : o.guard = none := h3
  have h2' : o.dst = some 85 := h2
  clear h2 h3
  refine wpOp_val (w' := x) ho h3' (v := val n 85) ?_ (by rw [h2']; exact hJ.quiet 73 85 (by decide) (by decide) (by decide) (by decide) (fun h => absurd h (by decide)))
  rw [vl85]
  exact sh_ld2 h1 ((hJ.kn 2 (.inl ⟨by decide, by decide⟩)).trans (by kernel_rfl)) (hJ.cell X.b0) (hJ.cell X.b1)
set_option maxRecDepth 100000 in
theorem opS74 {n : Nat} {x0 x : World} {listed : Array Bool} {a : Act} {Q : Exit → Act → World → Prop} (_X : X0 n x0) (hJ : OJ n x0 listed a x) (hr : 74 ∈ Region.ready .any (opsOf Tryz.f14 5) listed) : wpOp Tryz.prog (opsOf Tryz.f14 5) Q 74 (OJ n x0 (listed.setIfInBounds 74 true)) a x := by
  obtain ⟨o, ho, h1, h2, h3⟩ := op_at (ops := (opsOf Tryz.f14 5)) (i := 74) (e := (.makeFunc (.func 29) #[.tmp 85] #[], some 86, none)) (by kernel_rfl)
  have h3' : o.guard = none := h3
  have h2' : o.dst = some 86 := h2
  clear h2 h3
  refine wpOp_val (w' := x) ho h3' (v := val n 86) ?_ (by rw [h2']; exact hJ.quiet 74 86 (by decide) (by decide) (by decide) (by decide) (fun h => absurd h (by decide)))
  rw [vl86]
  exact sh_mf h1 ((hJ.at hr 85 ⟨by decide, by decide⟩ (by kernel_rfl)).trans (vl85 n))
set_option maxRecDepth 100000 in
theorem opS75 {n : Nat} {x0 x : World} {listed : Array Bool} {a : Act} {Q : Exit → Act → World → Prop} (_X : X0 n x0) (hJ : OJ n x0 listed a x) (hr : 75 ∈ Region.ready .any (opsOf Tryz.f14 5) listed) : wpOp Tryz.prog (opsOf Tryz.f14 5) Q 75 (OJ n x0 (listed.setIfInBounds 75 true)) a x := by
  obtain ⟨o, ho, h1, h2, h3⟩ := op_at (ops := (opsOf Tryz.f14 5)) (i := 75) (e := (.build 53 #[(0, .const (.string ⟨#[78, 117, 109, 101, 114, 105, 99, 76, 101, 115, 115, 84, 104, 97, 110, 80, 97, 116, 104]⟩)), (1, .tmp 84), (2, .tmp 86), (3, .const (.bool true))], some 87, none)) (by kernel_rfl)
  have h3' : o.guard = none := h3
  have h2' : o.dst = some 87 := h2
  clear h2 h3
  refine wpOp_val (w' := x) ho h3' (v := val n 87) ?_ (by rw [h2']; exact hJ.quiet 75 87 (by decide) (by decide) (by decide) (by decide) (fun h => absurd h (by decide)))
  rw [vl87]
  exact sh_b3 h1 ((hJ.at hr 84 ⟨by decide, by decide⟩ (by kernel_rfl)).trans (vl84 n)) ((hJ.at hr 86 ⟨by decide, by decide⟩ (by kernel_rfl)).trans (vl86 n))
set_option maxRecDepth 100000 in
theorem opS76 {n : Nat} {x0 x : World} {listed : Array Bool} {a : Act} {Q : Exit → Act → World → Prop} (_X : X0 n x0) (hJ : OJ n x0 listed a x) (_hr : 76 ∈ Region.ready .any (opsOf Tryz.f14 5) listed) : wpOp Tryz.prog (opsOf Tryz.f14 5) Q 76 (OJ n x0 (listed.setIfInBounds 76 true)) a x := by
  obtain ⟨o, ho, h1, h2, h3⟩ := op_at (ops := (opsOf Tryz.f14 5)) (i := 76) (e := (.fieldAddr 74 (.tmp 2) 0, some 88, none)) (by kernel_rfl)
  have h3' : o.guard = none := h3
  have h2' : o.dst = some 88 := h2
  clear h2 h3
  refine wpOp_val (w' := x) ho h3' (v := val n 88) ?_ (by rw [h2']; exact hJ.quiet 76 88 (by decide) (by decide) (by decide) (by decide) (fun h => absurd h (by decide)))
  rw [vl88]
  exact sh_fa h1 ((hJ.kn 2 (.inl ⟨by decide, by decide⟩)).trans (by kernel_rfl))
set_option maxRecDepth 100000 in
theorem opS77 {n : Nat} {x0 x : World} {listed : Array Bool} {a : Act} {Q : Exit → Act → World → Prop} (X : X0 n x0) (hJ : OJ n x0 listed a x) (hr : 77 ∈ Region.ready .any (opsOf Tryz.f14 5) listed) : wpOp Tryz.prog (opsOf Tryz.f14 5) Q 77 (OJ n x0 (listed.setIfInBounds 77 true)) a x := by
  obtain ⟨o, ho, h1, h2, h3⟩ := op_at (ops := (opsOf Tryz.f14 5)) (i := 77) (e := (.load 50 (.tmp 88), some 89, none)) (by kernel_rfl)
  have h3' : o.guard = none := h3
  have h2' : o.dst = some 89 := h2
  clear h2 h3
  refine wpOp_val (w' := x) ho h3' (v := val n 89) ?_ (by rw [h2']; exact hJ.quiet 77 89 (by decide) (by decide) (by decide) (by decide) (fun h => absurd h (by decide)))
  rw [vl89]
  exact sh_ld1 h1 ((hJ.at hr 88 ⟨by decide, by decide⟩ (by kernel_rfl)).trans (vl88 n)) (hJ.cell X.b0)
set_option maxRecDepth 100000 in
theorem opS78 {n : Nat} {x0 x : World} {listed : Array Bool} {a : Act} {Q : Exit → Act → World → Prop} (X : X0 n x0) (hJ : OJ n x0 listed a x) (_hr : 78 ∈ Region.ready .any (opsOf Tryz.f14 5) listed) : wpOp Tryz.prog (opsOf Tryz.f14 5) Q 78 (OJ n x0 (listed.setIfInBounds 78 true)) a x := by
  obtain ⟨o, ho, h1, h2, h3⟩ := op_at (ops := (opsOf Tryz.f14 5)) (i := 78) (e := (.load 74 (.tmp 2), some 90, none)) (by kernel_rfl)
  have h3' : o.guard = none := h3
  have h2' : o.dst = some 90 := h2
  clear h2 h3
  refine wpOp_val (w' := x) ho h3' (v := val n 90) ?_ (by rw [h2']; exact hJ.quiet 78 90 (by decide) (by decide) (by decide) (by decide) (fun h => absurd h (by decide)))
  rw [vl90]
  exact sh_ld2 h1 ((hJ.kn 2 (.inl ⟨by decide, by decide⟩)).trans (by kernel_rfl)) (hJ.cell X.b0) (hJ.cell X.b1)
set_option maxRecDepth 100000 in
theorem opS79 {n : Nat} {x0 x : World} {listed : Array Bool} {a : Act} {Q : Exit → Act → World → Prop} (_X : X0 n x0) (hJ : OJ n x0 listed a x) (hr : 79 ∈ Region.ready .any (opsOf Tryz.f14 5) listed) : wpOp Tryz.prog (opsOf Tryz.f14 5) Q 79 (OJ n x0 (listed.setIfInBounds 79 true)) a x := by
  obtain ⟨o, ho, h1, h2, h3⟩ := op_at (ops := (opsOf Tryz.f14 5)) (i := 79) (e := (.makeFunc (.func 30) #[.tmp 90] #[], some 91, none)) (by kernel_rfl)
  have h3' : o.guard = none := h3
  have h2' : o.dst = some 91 := h2
  clear h2 h3
  refine wpOp_val (w' := x) ho h3' (v := val n 91) ?_ (by rw [h2']; exact hJ.quiet 79 91 (by decide) (by decide) (by decide) (by decide) (fun h => absurd h (by decide)))
  rw [vl91]
  exact sh_mf h1 ((hJ.at hr 90 ⟨by decide, by decide⟩ (by kernel_rfl)).trans (vl90 n))
set_option maxRecDepth 100000 in
theorem opS80 {n : Nat} {x0 x : World} {listed : Array Bool} {a : Act} {Q : Exit → Act → World → Prop} (_X : X0 n x0) (hJ : OJ n x0 listed a x) (hr : 80 ∈ Region.ready .any (opsOf Tryz.f14 5) listed) : wpOp Tryz.prog (opsOf Tryz.f14 5) Q 80 (OJ n x0 (listed.setIfInBounds 80 true)) a x := by
  obtain ⟨o, ho, h1, h2, h3⟩ := op_at (ops := (opsOf Tryz.f14 5)) (i := 80) (e := (.build 53 #[(0, .const (.string ⟨#[78, 117, 109, 101, 114, 105, 99, 71, 114, 101, 97, 116, 101, 114, 84, 104, 97, 110]⟩)), (1, .tmp 89), (2, .tmp 91)], some 92, none)) (by kernel_rfl)
  have h3' : o.guard = none := h3
  have h2' : o.dst = some 92 := h2
  clear h2 h3
  refine wpOp_val (w' := x) ho h3' (v := val n 92) ?_ (by rw [h2']; exact hJ.quiet 80 92 (by decide) (by decide) (by decide) (by decide) (fun h => absurd h (by decide)))
  rw [vl92]
  exact sh_b2 h1 ((hJ.at hr 89 ⟨by decide, by decide⟩ (by kernel_rfl)).trans (vl89 n)) ((hJ.at hr 91 ⟨by decide, by decide⟩ (by kernel_rfl)).trans (vl91 n))
set_option maxRecDepth 100000 in
theorem opS81 {n : Nat} {x0 x : World} {listed : Array Bool} {a : Act} {Q : Exit → Act → World → Prop} (_X : X0 n x0) (hJ : OJ n x0 listed a x) (_hr : 81 ∈ Region.ready .any (opsOf Tryz.f14 5) listed) : wpOp Tryz.prog (opsOf Tryz.f14 5) Q 81 (OJ n x0 (listed.setIfInBounds 81 true)) a x := by
  obtain ⟨o, ho, h1, h2, h3⟩ := op_at (ops := (opsOf Tryz.f14 5)) (i := 81) (e := (.fieldAddr 74 (.tmp 2) 0, some 93, none)) (by kernel_rfl)
  have h3' : o.guard = none := h3
  have h2' : o.dst = some 93 := h2
  clear h2 h3
  refine wpOp_val (w' := x) ho h3' (v := val n 93) ?_ (by rw [h2']; exact hJ.quiet 81 93 (by decide) (by decide) (by decide) (by decide) (fun h => absurd h (by decide)))
  rw [vl93]
  exact sh_fa h1 ((hJ.kn 2 (.inl ⟨by decide, by decide⟩)).trans (by kernel_rfl))
set_option maxRecDepth 100000 in
theorem opS82 {n : Nat} {x0 x : World} {listed : Array Bool} {a : Act} {Q : Exit → Act → World → Prop} (X : X0 n x0) (hJ : OJ n x0 listed a x) (hr : 82 ∈ Region.ready .any (opsOf Tryz.f14 5) listed) : wpOp Tryz.prog (opsOf Tryz.f14 5) Q 82 (OJ n x0 (listed.setIfInBounds 82 true)) a x := by
  obtain ⟨o, ho, h1, h2, h3⟩ := op_at (ops := (opsOf Tryz.f14 5)) (i := 82) (e := (.load 50 (.tmp 93), some 94, none)) (by kernel_rfl)
  have h3' : o.guard = none := h3
  have h2' : o.dst = some 94 := h2
  clear h2 h3
  refine wpOp_val (w' := x) ho h3' (v := val n 94) ?_ (by rw [h2']; exact hJ.quiet 82 94 (by decide) (by decide) (by decide) (by decide) (fun h => absurd h (by decide)))
  rw [vl94]
  exact sh_ld1 h1 ((hJ.at hr 93 ⟨by decide, by decide⟩ (by kernel_rfl)).trans (vl93 n)) (hJ.cell X.b0)
set_option maxRecDepth 100000 in
theorem opS83 {n : Nat} {x0 x : World} {listed : Array Bool} {a : Act} {Q : Exit → Act → World → Prop} (X : X0 n x0) (hJ : OJ n x0 listed a x) (_hr : 83 ∈ Region.ready .any (opsOf Tryz.f14 5) listed) : wpOp Tryz.prog (opsOf Tryz.f14 5) Q 83 (OJ n x0 (listed.setIfInBounds 83 true)) a x := by
  obtain ⟨o, ho, h1, h2, h3⟩ := op_at (ops := (opsOf Tryz.f14 5)) (i := 83) (e := (.load 74 (.tmp 2), some 95, none)) (by kernel_rfl)
  have h3' : o.guard = none := h3
  have h2' : o.dst = some 95 := h2
  clear h2 h3
  refine wpOp_val (w' := x) ho h3' (v := val n 95) ?_ (by rw [h2']; exact hJ.quiet 83 95 (by decide) (by decide) (by decide) (by decide) (fun h => absurd h (by decide)))
  rw [vl95]
  exact sh_ld2 h1 ((hJ.kn 2 (.inl ⟨by decide, by decide⟩)).trans (by kernel_rfl)) (hJ.cell X.b0) (hJ.cell X.b1)
set_option maxRecDepth 100000 in
theorem opS84 {n : Nat} {x0 x : World} {listed : Array Bool} {a : Act} {Q : Exit → Act → World → Prop} (_X : X0 n x0) (hJ : OJ n x0 listed a x) (hr : 84 ∈ Region.ready .any (opsOf Tryz.f14 5) listed) : wpOp Tryz.prog (opsOf Tryz.f14 5) Q 84 (OJ n x0 (listed.setIfInBounds 84 true)) a x := by
  obtain ⟨o, ho, h1, h2, h3⟩ := op_at (ops := (opsOf Tryz.f14 5)) (i := 84) (e := (.makeFunc (.func 30) #[.tmp 95] #[], some 96, none)) (by kernel_rfl)
  have h3' : o.guard = none := h3
  have h2' : o.dst = some 96 := h2
  clear h2 h3
  refine wpOp_val (w' := x) ho h3' (v := val n 96) ?_ (by rw [h2']; exact hJ.quiet 84 96 (by decide) (by decide) (by decide) (by decide) (fun h => absurd h (by decide)))
  rw [vl96]
  exact sh_mf h1 ((hJ.at hr 95 ⟨by decide, by decide⟩ (by kernel_rfl)).trans (vl95 n))
set_option maxRecDepth 100000 in
theorem opS85 {n : Nat} {x0 x : World} {listed : Array Bool} {a : Act} {Q : Exit → Act → World → Prop} (_X : X0 n x0) (hJ : OJ n x0 listed a x) (hr : 85 ∈ Region.ready .any (opsOf Tryz.f14 5) listed) : wpOp Tryz.prog (opsOf Tryz.f14 5) Q 85 (OJ n x0 (listed.setIfInBounds 85 true)) a x := by
  obtain ⟨o, ho, h1, h2, h3⟩ := op_at (ops := (opsOf Tryz.f14 5)) (i := 85) (e := (.build 53 #[(0, .const (.string ⟨#[78, 117, 109, 101, 114, 105, 99, 71, 114, 101, 97, 116, 101, 114, 84, 104, 97, 110, 80, 97, 116, 104]⟩)), (1, .tmp 94), (2, .tmp 96), (3, .const (.bool true))], some 97, none)) (by kernel_rfl)
  have h3' : o.guard = none := h3
  have h2' : o.dst = some 97 := h2
  clear h2 h3
  refine wpOp_val (w' := x) ho h3' (v := val n 97) ?_ (by rw [h2']; exact hJ.quiet 85 97 (by decide) (by decide) (by decide) (by decide) (fun h => absurd h (by decide)))
  rw [vl97]
  exact sh_b3 h1 ((hJ.at hr 94 ⟨by decide, by decide⟩ (by kernel_rfl)).trans (vl94 n)) ((hJ.at hr 96 ⟨by decide, by decide⟩ (by kernel_rfl)).trans (vl96 n))
set_option maxRecDepth 100000 in
theorem opS86 {n : Nat} {x0 x : World} {listed : Array Bool} {a : Act} {Q : Exit → Act → World → Prop} (_X : X0 n x0) (hJ : OJ n x0 listed a x) (_hr : 86 ∈ Region.ready .any (opsOf Tryz.f14 5) listed) : wpOp Tryz.prog (opsOf Tryz.f14 5) Q 86 (OJ n x0 (listed.setIfInBounds 86 true)) a x := by
  obtain ⟨o, ho, h1, h2, h3⟩ := op_at (ops := (opsOf Tryz.f14 5)) (i := 86) (e := (.fieldAddr 74 (.tmp 2) 0, some 98, none)) (by kernel_rfl)
  have h3' : o.guard = none := h3
  have h2' : o.dst = some 98 := h2
  clear h2 h3
  refine wpOp_val (w' := x) ho h3' (v := val n 98) ?_ (by rw [h2']; exact hJ.quiet 86 98 (by decide) (by decide) (by decide) (by decide) (fun h => absurd h (by decide)))
  rw [vl98]
  exact sh_fa h1 ((hJ.kn 2 (.inl ⟨by decide, by decide⟩)).trans (by kernel_rfl))
set_option maxRecDepth 100000 in
theorem opS87 {n : Nat} {x0 x : World} {listed : Array Bool} {a : Act} {Q : Exit → Act → World → Prop} (X : X0 n x0) (hJ : OJ n x0 listed a x) (hr : 87 ∈ Region.ready .any (opsOf Tryz.f14 5) listed) : wpOp Tryz.prog (opsOf Tryz.f14 5) Q 87 (OJ n x0 (listed.setIfInBounds 87 true)) a x := by
  obtain ⟨o, ho, h1, h2, h3⟩ := op_at (ops := (opsOf Tryz.f14 5)) (i := 87) (e := (.load 50 (.tmp 98), some 99, none)) (by kernel_rfl)
  have h3' : o.guard = none := h3
  have h2' : o.dst = some 99 := h2
  clear h2 h3
  refine wpOp_val (w' := x) ho h3' (v := val n 99) ?_ (by rw [h2']; exact hJ.quiet 87 99 (by decide) (by decide) (by decide) (by decide) (fun h => absurd h (by decide)))
  rw [vl99]
  exact sh_ld1 h1 ((hJ.at hr 98 ⟨by decide, by decide⟩ (by kernel_rfl)).trans (vl98 n)) (hJ.cell X.b0)
set_option maxRecDepth 100000 in
theorem opS88 {n : Nat} {x0 x : World} {listed : Array Bool} {a : Act} {Q : Exit → Act → World → Prop} (X : X0 n x0) (hJ : OJ n x0 listed a x) (_hr : 88 ∈ Region.ready .any (opsOf Tryz.f14 5) listed) : wpOp Tryz.prog (opsOf Tryz.f14 5) Q 88 (OJ n x0 (listed.setIfInBounds 88 true)) a x := by
  obtain ⟨o, ho, h1, h2, h3⟩ := op_at (ops := (opsOf Tryz.f14 5)) (i := 88) (e := (.load 74 (.tmp 2), some 100, none)) (by kernel_rfl)
  have h3' : o.guard = none := h3
  have h2' : o.dst = some 100 := h2
  clear h2 h3
  refine wpOp_val (w' := x) ho h3' (v := val n 100) ?_ (by rw [h2']; exact hJ.quiet 88 100 (by decide) (by decide) (by decide) (by decide) (fun h => absurd h (by decide)))
  rw [vl100]
  exact sh_ld2 h1 ((hJ.kn 2 (.inl ⟨by decide, by decide⟩)).trans (by kernel_rfl)) (hJ.cell X.b0) (hJ.cell X.b1)
set_option maxRecDepth 100000 in
theorem opS89 {n : Nat} {x0 x : World} {listed : Array Bool} {a : Act} {Q : Exit → Act → World → Prop} (_X : X0 n x0) (hJ : OJ n x0 listed a x) (hr : 89 ∈ Region.ready .any (opsOf Tryz.f14 5) listed) : wpOp Tryz.prog (opsOf Tryz.f14 5) Q 89 (OJ n x0 (listed.setIfInBounds 89 true)) a x := by
  obtain ⟨o, ho, h1, h2, h3⟩ := op_at (ops := (opsOf Tryz.f14 5)) (i := 89) (e := (.makeFunc (.func 31) #[.tmp 100] #[], some 101, none)) (by kernel_rfl)
  have h3' : o.guard = none := h3
  have h2' : o.dst = some 101 := h2
  clear h2 h3
  refine wpOp_val (w' := x) ho h3' (v := val n 101) ?_ (by rw [h2']; exact hJ.quiet 89 101 (by decide) (by decide) (by decide) (by decide) (fun h => absurd h (by decide)))
  rw [vl101]
  exact sh_mf h1 ((hJ.at hr 100 ⟨by decide, by decide⟩ (by kernel_rfl)).trans (vl100 n))
set_option maxRecDepth 100000 in
theorem opS90 {n : Nat} {x0 x : World} {listed : Array Bool} {a : Act} {Q : Exit → Act → World → Prop} (_X : X0 n x0) (hJ : OJ n x0 listed a x) (hr : 90 ∈ Region.ready .any (opsOf Tryz.f14 5) listed) : wpOp Tryz.prog (opsOf Tryz.f14 5) Q 90 (OJ n x0 (listed.setIfInBounds 90 true)) a x := by
  obtain ⟨o, ho, h1, h2, h3⟩ := op_at (ops := (opsOf Tryz.f14 5)) (i := 90) (e := (.build 53 #[(0, .const (.string ⟨#[78, 117, 109, 101, 114, 105, 99, 76, 101, 115, 115, 84, 104, 97, 110, 69, 113, 117, 97, 108, 115]⟩)), (1, .tmp 99), (2, .tmp 101)], some 102, none)) (by kernel_rfl)
  have h3' : o.guard = none := h3
  have h2' : o.dst = some 102 := h2
  clear h2 h3
  refine wpOp_val (w' := x) ho h3' (v := val n 102) ?_ (by rw [h2']; exact hJ.quiet 90 102 (by decide) (by decide) (by decide) (by decide) (fun h => absurd h (by decide)))
  rw [vl102]
  exact sh_b2 h1 ((hJ.at hr 99 ⟨by decide, by decide⟩ (by kernel_rfl)).trans (vl99 n)) ((hJ.at hr 101 ⟨by decide, by decide⟩ (by kernel_rfl)).trans (vl101 n))
set_option maxRecDepth 100000 in
theorem opS91 {n : Nat} {x0 x : World} {listed : Array Bool} {a : Act} {Q : Exit → Act → World → Prop} (_X : X0 n x0) (hJ : OJ n x0 listed a x) (_hr : 91 ∈ Region.ready .any (opsOf Tryz.f14 5) listed) : wpOp Tryz.prog (opsOf Tryz.f14 5) Q 91 (OJ n x0 (listed.setIfInBounds 91 true)) a x := by
  obtain ⟨o, ho, h1, h2, h3⟩ := op_at (ops := (opsOf Tryz.f14 5)) (i := 91) (e := (.fieldAddr 74 (.tmp 2) 0, some 103, none)) (by kernel_rfl)
  have h3' : o.guard = none := h3
  have h2' : o.dst = some 103 := h2
  clear h2 h3
  refine wpOp_val (w' := x) ho h3' (v := val n 103) ?_ (by rw [h2']; exact hJ.quiet 91 103 (by decide) (by decide) (by decide) (by decide) (fun h => absurd h (by decide)))
  rw [vl103]
  exact sh_fa h1 ((hJ.kn 2 (.inl ⟨by decide, by decide⟩)).trans (by kernel_rfl))
set_option maxRecDepth 100000 in
theorem opS92 {n : Nat} {x0 x : World} {listed : Array Bool} {a : Act} {Q : Exit → Act → World → Prop} (X : X0 n x0) (hJ : OJ n x0 listed a x) (hr : 92 ∈ Region.ready .any (opsOf Tryz.f14 5) listed) : wpOp Tryz.prog (opsOf Tryz.f14 5) Q 92 (OJ n x0 (listed.setIfInBounds 92 true)) a x := by
  obtain ⟨o, ho, h1, h2, h3⟩ := op_at (ops := (opsOf Tryz.f14 5)) (i := 92) (e := (.load 50 (.tmp 103), some 104, none)) (by kernel_rfl)
  have h3' : o.guard = none := h3
  have h2' : o.dst = some 104 := h2
  clear h2 h3
  refine wpOp_val (w' := x) ho h3' (v := val n 104) ?_ (by rw [h2']; exact hJ.quiet 92 104 (by decide) (by decide) (by decide) (by decide) (fun h => absurd h (by decide)))
  rw [vl104]
  exact sh_ld1 h1 ((hJ.at hr 103 ⟨by decide, by decide⟩ (by kernel_rfl)).trans (vl103 n)) (hJ.cell X.b0)
set_option maxRecDepth 100000 in
theorem opS93 {n : Nat} {x0 x : World} {listed : Array Bool} {a : Act} {Q : Exit → Act → World → Prop} (X : X0 n x0) (hJ : OJ n x0 listed a x) (_hr : 93 ∈ Region.ready .any (opsOf Tryz.f14 5) listed) : wpOp Tryz.prog (opsOf Tryz.f14 5) Q 93 (OJ n x0 (listed.setIfInBounds 93 true)) a x := by
  obtain ⟨o, ho, h1, h2, h3⟩ := op_at (ops := (opsOf Tryz.f14 5)) (i := 93) (e := (.load 74 (.tmp 2), some 105, none)) (by kernel_rfl)
  have h3' : o.guard = none := h3
  have h2' : o.dst = some 105 := h2
  clear h2 h3
  refine wpOp_val (w' := x) ho h3' (v := val n 105) ?_ (by rw [h2']; exact hJ.quiet 93 105 (by decide) (by decide) (by decide) (by decide) (fun h => absurd h (by decide)))
  rw [vl105]
  exact sh_ld2 h1 ((hJ.kn 2 (.inl ⟨by decide, by decide⟩)).trans (by kernel_rfl)) (hJ.cell X.b0) (hJ.cell X.b1)
set_option maxRecDepth 100000 in
theorem opS94 {n : Nat} {x0 x : World} {listed : Array Bool} {a : Act} {Q : Exit → Act → World → Prop} (_X : X0 n x0) (hJ : OJ n x0 listed a x) (hr : 94 ∈ Region.ready .any (opsOf Tryz.f14 5) listed) : wpOp Tryz.prog (opsOf Tryz.f14 5) Q 94 (OJ n x0 (listed.setIfInBounds 94 true)) a x := by
  obtain ⟨o, ho, h1, h2, h3⟩ := op_at (ops := (opsOf Tryz.f14 5)) (i := 94) (e := (.makeFunc (.func 31) #[.tmp 105] #[], some 106, none)) (by kernel_rfl)
  have h3' : o.guard = none := h3
  have h2' : o.dst = some 106 := h2
  clear h2 h3
  refine wpOp_val (w' := x) ho h3' (v := val n 106) ?_ (by rw [h2']; exact hJ.quiet 94 106 (by decide) (by decide) (by decide) (by decide) (fun h => absurd h (by decide)))
  rw [vl106]
  exact sh_mf h1 ((hJ.at hr 105 ⟨by decide, by decide⟩ (by kernel_rfl)).trans (vl105 n))
set_option maxRecDepth 100000 in
theorem opS95 {n : Nat} {x0 x : World} {listed : Array Bool} {a : Act} {Q : Exit → Act → World → Prop} (_X : X0 n x0) (hJ : OJ n x0 listed a x) (hr : 95 ∈ Region.ready .any (opsOf Tryz.f14 5) listed) : wpOp Tryz.prog (opsOf Tryz.f14 5) Q 95 (OJ n x0 (listed.setIfInBounds 95 true)) a x := by
  obtain ⟨o, ho, h1, h2, h3⟩ := op_at (ops := (opsOf Tryz.f14 5)) (i := 95) (e := (.build 53 #[(0, .const (.string ⟨#[78, 117, 109, 101, 114, 105, 99, 76, 101, 115, 115, 84, 104, 97, 110, 69, 113, 117, 97, 108, 115, 80, 97, 116, 104]⟩)), (1, .tmp 104), (2, .tmp 106), (3, .const (.bool true))], some 107, none)) (by kernel_rfl)
  have h3' : o.guard = none := h3
  have h2' : o.dst = some 107 := h2
  clear h2 h3
  refine wpOp_val (w' := x) ho h3' (v := val n 107) ?_ (by rw [h2']; exact hJ.quiet 95 107 (by decide) (by decide) (by decide) (by decide) (fun h => absurd h (by decide)))
  rw [vl107]
  exact sh_b3 h1 ((hJ.at hr 104 ⟨by decide, by decide⟩ (by kernel_rfl)).trans (vl104 n)) ((hJ.at hr 106 ⟨by decide, by decide⟩ (by kernel_rfl)).trans (vl106 n))
set_option maxRecDepth 100000 in
theorem opS96 {n : Nat} {x0 x : World} {listed : Array Bool} {a : Act} {Q : Exit → Act → World → Prop} (_X : X0 n x0) (hJ : OJ n x0 listed a x) (_hr : 96 ∈ Region.ready .any (opsOf Tryz.f14 5) listed) : wpOp Tryz.prog (opsOf Tryz.f14 5) Q 96 (OJ n x0 (listed.setIfInBounds 96 true)) a x := by
  obtain ⟨o, ho, h1, h2, h3⟩ := op_at (ops := (opsOf Tryz.f14 5)) (i := 96) (e := (.fieldAddr 74 (.tmp 2) 0, some 108, none)) (by kernel_rfl)
  have h3' : o.guard = none := h3
  have h2' : o.dst = some 108 := h2
  clear h2 h3
  refine wpOp_val (w' := x) ho h3' (v := val n 108) ?_ (by rw [h2']; exact hJ.quiet 96 108 (by decide) (by decide) (by decide) (by decide) (fun h => absurd h (by decide)))
  rw [vl108]
  exact sh_fa h1 ((hJ.kn 2 (.inl ⟨by decide, by decide⟩)).trans (by kernel_rfl))
set_option maxRecDepth 100000 in
theorem opS97 {n : Nat} {x0 x : World} {listed : Array Bool} {a : Act} {Q : Exit → Act → World → Prop} (X : X0 n x0) (hJ : OJ n x0 listed a x) (hr : 97 ∈ Region.ready .any (opsOf Tryz.f14 5) listed) : wpOp Tryz.prog (opsOf Tryz.f14 5) Q 97 (OJ n x0 (listed.setIfInBounds 97 true)) a x := by
  obtain ⟨o, ho, h1, h2, h3⟩ := op_at (ops := (opsOf Tryz.f14 5)) (i := 97) (e := (.load 50 (.tmp 108), some 109, none)) (by kernel_rfl)
  have h3' : o.guard = none := h3
  have h2' : o.dst = some 109 := h2
  clear h2 h3
  refine wpOp_val (w' := x) ho h3' (v := val n 109) ?_ (by rw [h2']; exact hJ.quiet 97 109 (by decide) (by decide) (by decide) (by decide) (fun h => absurd h (by decide)))
  rw [vl109]
  exact sh_ld1 h1 ((hJ.at hr 108 ⟨by decide, by decide⟩ (by kernel_rfl)).trans (vl108 n)) (hJ.cell X.b0)
set_option maxRecDepth 100000 in
theorem opS98 {n : Nat} {x0 x : World} {listed : Array Bool} {a : Act} {Q : Exit → Act → World → Prop} (X : X0 n x0) (hJ : OJ n x0 listed a x) (_hr : 98 ∈ Region.ready .any (opsOf Tryz.f14 5) listed) : wpOp Tryz.prog (opsOf Tryz.f14 5) Q 98 (OJ n x0 (listed.setIfInBounds 98 true)) a x := by
  obtain ⟨o, ho, h1, h2, h3⟩ := op_at (ops := (opsOf Tryz.f14 5)) (i := 98) (e := (.load 74 (.tmp 2), some 110, none)) (by kernel_rfl)
  have h3' : o.guard = none := h3
  have h2' : o.dst = some 110 := h2
  clear h2 h3
  refine wpOp_val (w' := x) ho h3' (v := val n 110) ?_ (by rw [h2']; exact hJ.quiet 98 110 (by decide) (by decide) (by decide) (by decide) (fun h => absurd h (by decide)))
  rw [vl110]
  exact sh_ld2 h1 ((hJ.kn 2 (.inl ⟨by decide, by decide⟩)).trans (by kernel_rfl)) (hJ.cell X.b0) (hJ.cell X.b1)
set_option maxRecDepth 100000 in
theorem opS99 {n : Nat} {x0 x : World} {listed : Array Bool} {a : Act} {Q : Exit → Act → World → Prop} (_X : X0 n x0) (hJ : OJ n x0 listed a x) (hr : 99 ∈ Region.ready .any (opsOf Tryz.f14 5) listed) : wpOp Tryz.prog (opsOf Tryz.f14 5) Q 99 (OJ n x0 (listed.setIfInBounds 99 true)) a x := by
  obtain ⟨o, ho, h1, h2, h3⟩ := op_at (ops := (opsOf Tryz.f14 5)) (i := 99) (e := (.makeFunc (.func 32) #[.tmp 110] #[], some 111, none)) (by kernel_rfl)
  have h3' : o.guard = none := h3
  have h2' : o.dst = some 111 := h2
  clear h2 h3
  refine wpOp_val (w' := x) ho h3' (v := val n 111) ?_ (by rw [h2']; exact hJ.quiet 99 111 (by decide) (by decide) (by decide) (by decide) (fun h => absurd h (by decide)))
  rw [vl111]
  exact sh_mf h1 ((hJ.at hr 110 ⟨by decide, by decide⟩ (by kernel_rfl)).trans (vl110 n))
set_option maxRecDepth 100000 in
theorem opS100 {n : Nat} {x0 x : World} {listed : Array Bool} {a : Act} {Q : Exit → Act → World → Prop} (_X : X0 n x0) (hJ : OJ n x0 listed a x) (hr : 100 ∈ Region.ready .any (opsOf Tryz.f14 5) listed) : wpOp Tryz.prog (opsOf Tryz.f14 5) Q 100 (OJ n x0 (listed.setIfInBounds 100 true)) a x := by
  obtain ⟨o, ho, h1, h2, h3⟩ := op_at (ops := (opsOf Tryz.f14 5)) (i := 100) (e := (.build 53 #[(0, .const (.string ⟨#[78, 117, 109, 101, 114, 105, 99, 71, 114, 101, 97, 116, 101, 114, 84, 104, 97, 110, 69, 113, 117, 97, 108, 115]⟩)), (1, .tmp 109), (2, .tmp 111)], some 112, none)) (by kernel_rfl)
  have h3' : o.guard = none := h3
  have h2' : o.dst = some 112 := h2
  clear h2 h3
  refine wpOp_val (w' := x) ho h3' (v := val n 112) ?_ (by rw [h2']; exact hJ.quiet 100 112 (by decide) (by decide) (by decide) (by decide) (fun h => absurd h (by decide)))
  rw [vl112]
  exact sh_b2 h1 ((hJ.at hr 109 ⟨by decide, by decide⟩ (by kernel_rfl)).trans (vl109 n)) ((hJ.at hr 111 ⟨by decide, by decide⟩ (by kernel_rfl)).trans (vl111 n))
set_option maxRecDepth 100000 in
theorem opS101 {n : Nat} {x0 x : World} {listed : Array Bool} {a : Act} {Q : Exit → Act → World → Prop} (_X : X0 n x0) (hJ : OJ n x0 listed a x) (_hr : 101 ∈ Region.ready .any (opsOf Tryz.f14 5) listed) : wpOp Tryz.prog (opsOf Tryz.f14 5) Q 101 (OJ n x0 (listed.setIfInBounds 101 true)) a x := by
  obtain ⟨o, ho, h1, h2, h3⟩ := op_at (ops := (opsOf Tryz.f14 5)) (i := 101) (e := (.fieldAddr 74 (.tmp 2) 0, some 113, none)) (by kernel_rfl)
  have h3' : o.guard = none := h3
  have h2' : o.dst = some 113 := h2
  clear h2 h3
  refine wpOp_val (w' := x) ho h3' (v := val n 113) ?_ (by rw [h2']; exact hJ.quiet 101 113 (by decide) (by decide) (by decide) (by decide) (fun h => absurd h (by decide)))
  rw [vl113]
  exact sh_fa h1 ((hJ.kn 2 (.inl ⟨by decide, by decide⟩)).trans (by kernel_rfl))
set_option maxRecDepth 100000 in
theorem opS102 {n : Nat} {x0 x : World} {listed : Array Bool} {a : Act} {Q : Exit → Act → World → Prop} (X : X0 n x0) (hJ : OJ n x0 listed a x) (hr : 102 ∈ Region.ready .any (opsOf Tryz.f14 5) listed) : wpOp Tryz.prog (opsOf Tryz.f14 5) Q 102 (OJ n x0 (listed.setIfInBounds 102 true)) a x := by
  obtain ⟨o, ho, h1, h2, h3⟩ := op_at (ops := (opsOf Tryz.f14 5)) (i := 102) (e := (.load 50 (.tmp 113), some 114, none)) (by kernel_rfl)
  have h3' : o.guard = none := h3
  have h2' : o.dst = some 114 := h2
  clear h2 h3
  refine wpOp_val (w' := x) ho h3' (v := val n 114) ?_ (by rw [h2']; exact hJ.quiet 102 114 (by decide) (by decide) (by decide) (by decide) (fun h => absurd h (by decide)))
  rw [vl114]
  exact sh_ld1 h1 ((hJ.at hr 113 ⟨by decide, by decide⟩ (by kernel_rfl)).trans (vl113 n)) (hJ.cell X.b0)
set_option maxRecDepth 100000 in
theorem opS103 {n : Nat} {x0 x : World} {listed : Array Bool} {a : Act} {Q : Exit → Act → World → Prop} (X : X0 n x0) (hJ : OJ n x0 listed a x) (_hr : 103 ∈ Region.ready .any (opsOf Tryz.f14 5) listed) : wpOp Tryz.prog (opsOf Tryz.f14 5) Q 103 (OJ n x0 (listed.setIfInBounds 103 true)) a x := by
  obtain ⟨o, ho, h1, h2, h3⟩ := op_at (ops := (opsOf Tryz.f14 5)) (i := 103) (e := (.load 74 (.tmp 2), some 115, none)) (by kernel_rfl)
  have h3' : o.guard = none := h3
  have h2' : o.dst = some 115 := h2
  clear h2 h3
  refine wpOp_val (w' := x) ho h3' (v := val n 115) ?_ (by rw [h2']; exact hJ.quiet 103 115 (by decide) (by decide) (by decide) (by decide) (fun h => absurd h (by decide)))
  rw [vl115]
  exact sh_ld2 h1 ((hJ.kn 2 (.inl ⟨by decide, by decide⟩)).trans (by kernel_rfl)) (hJ.cell X.b0) (hJ.cell X.b1)
set_option maxRecDepth 100000 in
theorem opS104 {n : Nat} {x0 x : World} {listed : Array Bool} {a : Act} {Q : Exit → Act → World → Prop} (_X : X0 n x0) (hJ : OJ n x0 listed a x) (hr : 104 ∈ Region.ready .any (opsOf Tryz.f14 5) listed) : wpOp Tryz.prog (opsOf Tryz.f14 5) Q 104 (OJ n x0 (listed.setIfInBounds 104 true)) a x := by
  obtain ⟨o, ho, h1, h2, h3⟩ := op_at (ops := (opsOf Tryz.f14 5)) (i := 104) (e := (.makeFunc (.func 32) #[.tmp 115] #[], some 116, none)) (by kernel_rfl)
  have h3' : o.guard = none := h3
  have h2' : o.dst = some 116 := h2
  clear h2 h3
  refine wpOp_val (w' := x) ho h3' (v := val n 116) ?_ (by rw [h2']; exact hJ.quiet 104 116 (by decide) (by decide) (by decide) (by decide) (fun h => absurd h (by decide)))
  rw [vl116]
  exact sh_mf h1 ((hJ.at hr 115 ⟨by decide, by decide⟩ (by kernel_rfl)).trans (vl115 n))
set_option maxRecDepth 100000 in
theorem opS105 {n : Nat} {x0 x : World} {listed : Array Bool} {a : Act} {Q : Exit → Act → World → Prop} (_X : X0 n x0) (hJ : OJ n x0 listed a x) (hr : 105 ∈ Region.ready .any (opsOf Tryz.f14 5) listed) : wpOp Tryz.prog (opsOf Tryz.f14 5) Q 105 (OJ n x0 (listed.setIfInBounds 105 true)) a x := by
  obtain ⟨o, ho, h1, h2, h3⟩ := op_at (ops := (opsOf Tryz.f14 5)) (i := 105) (e := (.build 53 #[(0, .const (.string ⟨#[78, 117, 109, 101, 114, 105, 99, 71, 114, 101, 97, 116, 101, 114, 84, 104, 97, 110, 69, 113, 117, 97, 108, 115, 80, 97, 116, 104]⟩)), (1, .tmp 114), (2, .tmp 116), (3, .const (.bool true))], some 117, none)) (by kernel_rfl)
  have h3' : o.guard = none := h3
  have h2' : o.dst = some 117 := h2
  clear h2 h3
  refine wpOp_val (w' := x) ho h3' (v := val n 117) ?_ (by rw [h2']; exact hJ.quiet 105 117 (by decide) (by decide) (by decide) (by decide) (fun h => absurd h (by decide)))
  rw [vl117]
  exact sh_b3 h1 ((hJ.at hr 114 ⟨by decide, by decide⟩ (by kernel_rfl)).trans (vl114 n)) ((hJ.at hr 116 ⟨by decide, by decide⟩ (by kernel_rfl)).trans (vl116 n))
set_option maxRecDepth 100000 in
theorem opS106 {n : Nat} {x0 x : World} {listed : Array Bool} {a : Act} {Q : Exit → Act → World → Prop} (_X : X0 n x0) (hJ : OJ n x0 listed a x) (_hr : 106 ∈ Region.ready .any (opsOf Tryz.f14 5) listed) : wpOp Tryz.prog (opsOf Tryz.f14 5) Q 106 (OJ n x0 (listed.setIfInBounds 106 true)) a x := by
  obtain ⟨o, ho, h1, h2, h3⟩ := op_at (ops := (opsOf Tryz.f14 5)) (i := 106) (e := (.fieldAddr 74 (.tmp 3) 0, some 118, none)) (by kernel_rfl)
  have h3' : o.guard = none := h3
  have h2' : o.dst = some 118 := h2
  clear h2 h3
  refine wpOp_val (w' := x) ho h3' (v := val n 118) ?_ (by rw [h2']; exact hJ.quiet 106 118 (by decide) (by decide) (by decide) (by decide) (fun h => absurd h (by decide)))
  rw [vl118]
  exact sh_fa h1 ((hJ.kn 3 (.inl ⟨by decide, by decide⟩)).trans (by kernel_rfl))
set_option maxRecDepth 100000 in
theorem opS107 {n : Nat} {x0 x : World} {listed : Array Bool} {a : Act} {Q : Exit → Act → World → Prop} (X : X0 n x0) (hJ : OJ n x0 listed a x) (hr : 107 ∈ Region.ready .any (opsOf Tryz.f14 5) listed) : wpOp Tryz.prog (opsOf Tryz.f14 5) Q 107 (OJ n x0 (listed.setIfInBounds 107 true)) a x := by
  obtain ⟨o, ho, h1, h2, h3⟩ := op_at (ops := (opsOf Tryz.f14 5)) (i := 107) (e := (.load 50 (.tmp 118), some 119, none)) (by kernel_rfl)
  have h3' : o.guard = none := h3
  have h2' : o.dst = some 119 := h2
  clear h2 h3
  refine wpOp_val (w' := x) ho h3' (v := val n 119) ?_ (by rw [h2']; exact hJ.quiet 107 119 (by decide) (by decide) (by decide) (by decide) (fun h => absurd h (by decide)))
  rw [vl119]
  exact sh_ld1 h1 ((hJ.at hr 118 ⟨by decide, by decide⟩ (by kernel_rfl)).trans (vl118 n)) (hJ.cell X.c0)
set_option maxRecDepth 100000 in
theorem opS108 {n : Nat} {x0 x : World} {listed : Array Bool} {a : Act} {Q : Exit → Act → World → Prop} (X : X0 n x0) (hJ : OJ n x0 listed a x) (_hr : 108 ∈ Region.ready .any (opsOf Tryz.f14 5) listed) : wpOp Tryz.prog (opsOf Tryz.f14 5) Q 108 (OJ n x0 (listed.setIfInBounds 108 true)) a x := by
  obtain ⟨o, ho, h1, h2, h3⟩ := op_at (ops := (opsOf Tryz.f14 5)) (i := 108) (e := (.load 74 (.tmp 3), some 120, none)) (by kernel_rfl)
  have h3' : o.guard = none := h3
  have h2' : o.dst = some 120 := h2
  clear h2 h3
  refine wpOp_val (w' := x) ho h3' (v := val n 120) ?_ (by rw [h2']; exact hJ.quiet 108 120 (by decide) (by decide) (by decide) (by decide) (fun h => absurd h (by decide)))
  rw [vl120]
  exact sh_ld2 h1 ((hJ.kn 3 (.inl ⟨by decide, by decide⟩)).trans (by kernel_rfl)) (hJ.cell X.c0) (hJ.cell X.c1)
set_option maxRecDepth 100000 in
theorem opS109 {n : Nat} {x0 x : World} {listed : Array Bool} {a : Act} {Q : Exit → Act → World → Prop} (_X : X0 n x0) (hJ : OJ n x0 listed a x) (hr : 109 ∈ Region.ready .any (opsOf Tryz.f14 5) listed) : wpOp Tryz.prog (opsOf Tryz.f14 5) Q 109 (OJ n x0 (listed.setIfInBounds 109 true)) a x := by
  obtain ⟨o, ho, h1, h2, h3⟩ := op_at (ops := (opsOf Tryz.f14 5)) (i := 109) (e := (.makeFunc (.func 28) #[.tmp 120] #[], some 121, none)) (by kernel_rfl)
  have h3' : o.guard = none := h3
  have h2' : o.dst = some 121 := h2
  clear h2 h3
  refine wpOp_val (w' := x) ho h3' (v := val n 121) ?_ (by rw [h2']; exact hJ.quiet 109 121 (by decide) (by decide) (by decide) (by decide) (fun h => absurd h (by decide)))
  rw [vl121]
  exact sh_mf h1 ((hJ.at hr 120 ⟨by decide, by decide⟩ (by kernel_rfl)).trans (vl120 n))
set_option maxRecDepth 100000 in
theorem opS110 {n : Nat} {x0 x : World} {listed : Array Bool} {a : Act} {Q : Exit → Act → World → Prop} (_X : X0 n x0) (hJ : OJ n x0 listed a x) (hr : 110 ∈ Region.ready .any (opsOf Tryz.f14 5) listed) : wpOp Tryz.prog (opsOf Tryz.f14 5) Q 110 (OJ n x0 (listed.setIfInBounds 110 true)) a x := by
  obtain ⟨o, ho, h1, h2, h3⟩ := op_at (ops := (opsOf Tryz.f14 5)) (i := 110) (e := (.build 53 #[(0, .const (.string ⟨#[66, 111, 111, 108, 101, 97, 110, 69, 113, 117, 97, 108, 115]⟩)), (1, .tmp 119), (2, .tmp 121)], some 122, none)) (by kernel_rfl)
  have h3' : o.guard = none := h3
  have h2' : o.dst = some 122 := h2
  clear h2 h3
  refine wpOp_val (w' := x) ho h3' (v := val n 122) ?_ (by rw [h2']; exact hJ.quiet 110 122 (by decide) (by decide) (by decide) (by decide) (fun h => absurd h (by decide)))
  rw [vl122]
  exact sh_b2 h1 ((hJ.at hr 119 ⟨by decide, by decide⟩ (by kernel_rfl)).trans (vl119 n)) ((hJ.at hr 121 ⟨by decide, by decide⟩ (by kernel_rfl)).trans (vl121 n))
set_option maxRecDepth 100000 in
theorem opS111 {n : Nat} {x0 x : World} {listed : Array Bool} {a : Act} {Q : Exit → Act → World → Prop} (_X : X0 n x0) (hJ : OJ n x0 listed a x) (_hr : 111 ∈ Region.ready .any (opsOf Tryz.f14 5) listed) : wpOp Tryz.prog (opsOf Tryz.f14 5) Q 111 (OJ n x0 (listed.setIfInBounds 111 true)) a x := by
  obtain ⟨o, ho, h1, h2, h3⟩ := op_at (ops := (opsOf Tryz.f14 5)) (i := 111) (e := (.fieldAddr 74 (.tmp 3) 0, some 123, none)) (by kernel_rfl)
  have h3' : o.guard = none := h3
  have h2' : o.dst = some 123 := h2
  clear h2 h3
  refine wpOp_val (w' := x) ho h3' (v := val n 123) ?_ (by rw [h2']; exact hJ.quiet 111 123 (by decide) (by decide) (by decide) (by decide) (fun h => absurd h (by decide)))
  rw [vl123]
  exact sh_fa h1 ((hJ.kn 3 (.inl ⟨by decide, by decide⟩)).trans (by kernel_rfl))
set_option maxRecDepth 100000 in
theorem opS112 {n : Nat} {x0 x : World} {listed : Array Bool} {a : Act} {Q : Exit → Act → World → Prop} (X : X0 n x0) (hJ : OJ n x0 listed a x) (hr : 112 ∈ Region.ready .any (opsOf Tryz.f14 5) listed) : wpOp Tryz.prog (opsOf Tryz.f14 5) Q 112 (OJ n x0 (listed.setIfInBounds 112 true)) a x := by
  obtain ⟨o, ho, h1, h2, h3⟩ := op_at (ops := (opsOf Tryz.f14 5)) (i := 112) (e := (.load 50 (.tmp 123), some 124, none)) (by kernel_rfl)
  have h3' : o.guard = none := h3
  have h2' : o.dst = some 124 := h2
  clear h2 h3
  refine wpOp_val (w' := x) ho h3' (v := val n 124) ?_ (by rw [h2']; exact hJ.quiet 112 124 (by decide) (by decide) (by decide) (by decide) (fun h => absurd h (by decide)))
  rw [vl124]
  exact sh_ld1 h1 ((hJ.at hr 123 ⟨by decide, by decide⟩ (by kernel_rfl)).trans (vl123 n)) (hJ.cell X.c0)
set_option maxRecDepth 100000 in
theorem opS113 {n : Nat} {x0 x : World} {listed : Array Bool} {a : Act} {Q : Exit → Act → World → Prop} (X : X0 n x0) (hJ : OJ n x0 listed a x) (_hr : 113 ∈ Region.ready .any (opsOf Tryz.f14 5) listed) : wpOp Tryz.prog (opsOf Tryz.f14 5) Q 113 (OJ n x0 (listed.setIfInBounds 113 true)) a x := by
  obtain ⟨o, ho, h1, h2, h3⟩ := op_at (ops := (opsOf Tryz.f14 5)) (i := 113) (e := (.load 74 (.tmp 3), some 125, none)) (by kernel_rfl)
  have h3' : o.guard = none := h3
  have h2' : o.dst = some 125 := h2
  clear h2 h3
  refine wpOp_val (w' := x) ho h3' (v := val n 125) ?_ (by rw [h2']; exact hJ.quiet 113 125 (by decide) (by decide) (by decide) (by decide) (fun h => absurd h (by decide)))
  rw [vl125]
  exact sh_ld2 h1 ((hJ.kn 3 (.inl ⟨by decide, by decide⟩)).trans (by kernel_rfl)) (hJ.cell X.c0) (hJ.cell X.c1)
set_option maxRecDepth 100000 in
theorem opS114 {n : Nat} {x0 x : World} {listed : Array Bool} {a : Act} {Q : Exit → Act → World → Prop} (_X : X0 n x0) (hJ : OJ n x0 listed a x) (hr : 114 ∈ Region.ready .any (opsOf Tryz.f14 5) listed) : wpOp Tryz.prog (opsOf Tryz.f14 5) Q 114 (OJ n x0 (listed.setIfInBounds 114 true)) a x := by
  obtain ⟨o, ho, h1, h2, h3⟩ := op_at (ops := (opsOf Tryz.f14 5)) (i := 114) (e := (.makeFunc (.func 28) #[.tmp 125] #[], some 126, none)) (by kernel_rfl)
  have h3' : o.guard = none := h3
  have h2' : o.dst = some 126 := h2
  clear h2 h3
  refine wpOp_val (w' := x) ho h3' (v := val n 126) ?_ (by rw [h2']; exact hJ.quiet 114 126 (by decide) (by decide) (by decide) (by decide) (fun h => absurd h (by decide)))
  rw [vl126]
  exact sh_mf h1 ((hJ.at hr 125 ⟨by decide, by decide⟩ (by kernel_rfl)).trans (vl125 n))
set_option maxRecDepth 100000 in
theorem opS115 {n : Nat} {x0 x : World} {listed : Array Bool} {a : Act} {Q : Exit → Act → World → Prop} (_X : X0 n x0) (hJ : OJ n x0 listed a x) (hr : 115 ∈ Region.ready .any (opsOf Tryz.f14 5) listed) : wpOp Tryz.prog (opsOf Tryz.f14 5) Q 115 (OJ n x0 (listed.setIfInBounds 115 true)) a x := by
  obtain ⟨o, ho, h1, h2, h3⟩ := op_at (ops := (opsOf Tryz.f14 5)) (i := 115) (e := (.build 53 #[(0, .const (.string ⟨#[66, 111, 111, 108, 101, 97, 110, 69, 113, 117, 97, 108, 115, 80, 97, 116, 104]⟩)), (1, .tmp 124), (2, .tmp 126), (3, .const (.bool true))], some 127, none)) (by kernel_rfl)
  have h3' : o.guard = none := h3
  have h2' : o.dst = some 127 := h2
  clear h2 h3
  refine wpOp_val (w' := x) ho h3' (v := val n 127) ?_ (by rw [h2']; exact hJ.quiet 115 127 (by decide) (by decide) (by decide) (by decide) (fun h => absurd h (by decide)))
  rw [vl127]
  exact sh_b3 h1 ((hJ.at hr 124 ⟨by decide, by decide⟩ (by kernel_rfl)).trans (vl124 n)) ((hJ.at hr 126 ⟨by decide, by decide⟩ (by kernel_rfl)).trans (vl126 n))
set_option maxRecDepth 100000 in
theorem opS116 {n : Nat} {x0 x : World} {listed : Array Bool} {a : Act} {Q : Exit → Act → World → Prop} (_X : X0 n x0) (hJ : OJ n x0 listed a x) (_hr : 116 ∈ Region.ready .any (opsOf Tryz.f14 5) listed) : wpOp Tryz.prog (opsOf Tryz.f14 5) Q 116 (OJ n x0 (listed.setIfInBounds 116 true)) a x := by
  obtain ⟨o, ho, h1, h2, h3⟩ := op_at (ops := (opsOf Tryz.f14 5)) (i := 116) (e := (.fieldAddr 74 (.tmp 4) 0, some 128, none)) (by kernel_rfl)
  have h3' : o.guard = none := h3
  have h2' : o.dst = some 128 := h2
  clear h2 h3
  refine wpOp_val (w' := x) ho h3' (v := val n 128) ?_ (by rw [h2']; exact hJ.quiet 116 128 (by decide) (by decide) (by decide) (by decide) (fun h => absurd h (by decide)))
  rw [vl128]
  exact sh_fa h1 ((hJ.kn 4 (.inl ⟨by decide, by decide⟩)).trans (by kernel_rfl))
set_option maxRecDepth 100000 in
theorem opS117 {n : Nat} {x0 x : World} {listed : Array Bool} {a : Act} {Q : Exit → Act → World → Prop} (X : X0 n x0) (hJ : OJ n x0 listed a x) (hr : 117 ∈ Region.ready .any (opsOf Tryz.f14 5) listed) : wpOp Tryz.prog (opsOf Tryz.f14 5) Q 117 (OJ n x0 (listed.setIfInBounds 117 true)) a x := by
  obtain ⟨o, ho, h1, h2, h3⟩ := op_at (ops := (opsOf Tryz.f14 5)) (i := 117) (e := (.load 50 (.tmp 128), some 129, none)) (by kernel_rfl)
  have h3' : o.guard = none := h3
  have h2' : o.dst = some 129 := h2
  clear h2 h3
  refine wpOp_val (w' := x) ho h3' (v := val n 129) ?_ (by rw [h2']; exact hJ.quiet 117 129 (by decide) (by decide) (by decide) (by decide) (fun h => absurd h (by decide)))
  rw [vl129]
  exact sh_ld1 h1 ((hJ.at hr 128 ⟨by decide, by decide⟩ (by kernel_rfl)).trans (vl128 n)) (hJ.cell X.d0)
set_option maxRecDepth 100000 in
theorem opS118 {n : Nat} {x0 x : World} {listed : Array Bool} {a : Act} {Q : Exit → Act → World → Prop} (X : X0 n x0) (hJ : OJ n x0 listed a x) (_hr : 118 ∈ Region.ready .any (opsOf Tryz.f14 5) listed) : wpOp Tryz.prog (opsOf Tryz.f14 5) Q 118 (OJ n x0 (listed.setIfInBounds 118 true)) a x := by
  obtain ⟨o, ho, h1, h2, h3⟩ := op_at (ops := (opsOf Tryz.f14 5)) (i := 118) (e := (.load 74 (.tmp 4), some 130, none)) (by kernel_rfl)
  have h3' : o.guard = none := h3
  have h2' : o.dst = some 130 := h2
  clear h2 h3
  refine wpOp_val (w' := x) ho h3' (v := val n 130) ?_ (by rw [h2']; exact hJ.quiet 118 130 (by decide) (by decide) (by decide) (by decide) (fun h => absurd h (by decide)))
  rw [vl130]
  exact sh_ld2 h1 ((hJ.kn 4 (.inl ⟨by decide, by decide⟩)).trans (by kernel_rfl)) (hJ.cell X.d0) (hJ.cell X.d1)
set_option maxRecDepth 100000 in
theorem opS119 {n : Nat} {x0 x : World} {listed : Array Bool} {a : Act} {Q : Exit → Act → World → Prop} (_X : X0 n x0) (hJ : OJ n x0 listed a x) (hr : 119 ∈ Region.ready .any (opsOf Tryz.f14 5) listed) : wpOp Tryz.prog (opsOf Tryz.f14 5) Q 119 (OJ n x0 (listed.setIfInBounds 119 true)) a x := by
  obtain ⟨o, ho, h1, h2, h3⟩ := op_at (ops := (opsOf Tryz.f14 5)) (i := 119) (e := (.makeFunc (.func 28) #[.tmp 130] #[], some 131, none)) (by kernel_rfl)
  have h3' : o.guard = none := h3
  have h2' : o.dst = some 131 := h2
  clear h2 h3
  refine wpOp_val (w' := x) ho h3' (v := val n 131) ?_ (by rw [h2']; exact hJ.quiet 119 131 (by decide) (by decide) (by decide) (by decide) (fun h => absurd h (by decide)))
  rw [vl131]
  exact sh_mf h1 ((hJ.at hr 130 ⟨by decide, by decide⟩ (by kernel_rfl)).trans (vl130 n))
set_option maxRecDepth 100000 in
theorem opS120 {n : Nat} {x0 x : World} {listed : Array Bool} {a : Act} {Q : Exit → Act → World → Prop} (_X : X0 n x0) (hJ : OJ n x0 listed a x) (hr : 120 ∈ Region.ready .any (opsOf Tryz.f14 5) listed) : wpOp Tryz.prog (opsOf Tryz.f14 5) Q 120 (OJ n x0 (listed.setIfInBounds 120 true)) a x := by
  obtain ⟨o, ho, h1, h2, h3⟩ := op_at (ops := (opsOf Tryz.f14 5)) (i := 120) (e := (.build 53 #[(0, .const (.string ⟨#[84, 105, 109, 101, 115, 116, 97, 109, 112, 69, 113, 117, 97, 108, 115]⟩)), (1, .tmp 129), (2, .tmp 131)], some 132, none)) (by kernel_rfl)
  have h3' : o.guard = none := h3
  have h2' : o.dst = some 132 := h2
  clear h2 h3
  refine wpOp_val (w' := x) ho h3' (v := val n 132) ?_ (by rw [h2']; exact hJ.quiet 120 132 (by decide) (by decide) (by decide) (by decide) (fun h => absurd h (by decide)))
  rw [vl132]
  exact sh_b2 h1 ((hJ.at hr 129 ⟨by decide, by decide⟩ (by kernel_rfl)).trans (vl129 n)) ((hJ.at hr 131 ⟨by decide, by decide⟩ (by kernel_rfl)).trans (vl131 n))
set_option maxRecDepth 100000 in
theorem opS121 {n : Nat} {x0 x : World} {listed : Array Bool} {a : Act} {Q : Exit → Act → World → Prop} (_X : X0 n x0) (hJ : OJ n x0 listed a x) (_hr : 121 ∈ Region.ready .any (opsOf Tryz.f14 5) listed) : wpOp Tryz.prog (opsOf Tryz.f14 5) Q 121 (OJ n x0 (listed.setIfInBounds 121 true)) a x := by
  obtain ⟨o, ho, h1, h2, h3⟩ := op_at (ops := (opsOf Tryz.f14 5)) (i := 121) (e := (.fieldAddr 74 (.tmp 4) 0, some 133, none)) (by kernel_rfl)
  have h3' : o.guard = none := h3
  have h2' : o.dst = some 133 := h2
  clear h2 h3
  refine wpOp_val (w' := x) ho h3' (v := val n 133) ?_ (by rw [h2']; exact hJ.quiet 121 133 (by decide) (by decide) (by decide) (by decide) (fun h => absurd h (by decide)))
  rw [vl133]
  exact sh_fa h1 ((hJ.kn 4 (.inl ⟨by decide, by decide⟩)).trans (by kernel_rfl))
set_option maxRecDepth 100000 in
theorem opS122 {n : Nat} {x0 x : World} {listed : Array Bool} {a : Act} {Q : Exit → Act → World → Prop} (X : X0 n x0) (hJ : OJ n x0 listed a x) (hr : 122 ∈ Region.ready .any (opsOf Tryz.f14 5) listed) : wpOp Tryz.prog (opsOf Tryz.f14 5) Q 122 (OJ n x0 (listed.setIfInBounds 122 true)) a x := by
  obtain ⟨o, ho, h1, h2, h3⟩ := op_at (ops := (opsOf Tryz.f14 5)) (i := 122) (e := (.load 50 (.tmp 133), some 134, none)) (by kernel_rfl)
  have h3' : o.guard = none := h3
  have h2' : o.dst = some 134 := h2
  clear h2 h3
  refine wpOp_val (w' := x) ho h3' (v := val n 134) ?_ (by rw [h2']; exact hJ.quiet 122 134 (by decide) (by decide) (by decide) (by decide) (fun h => absurd h (by decide)))
  rw [vl134]
  exact sh_ld1 h1 ((hJ.at hr 133 ⟨by decide, by decide⟩ (by kernel_rfl)).trans (vl133 n)) (hJ.cell X.d0)
set_option maxRecDepth 100000 in
theorem opS123 {n : Nat} {x0 x : World} {listed : Array Bool} {a : Act} {Q : Exit → Act → World → Prop} (X : X0 n x0) (hJ : OJ n x0 listed a x) (_hr : 123 ∈ Region.ready .any (opsOf Tryz.f14 5) listed) : wpOp Tryz.prog (opsOf Tryz.f14 5) Q 123 (OJ n x0 (listed.setIfInBounds 123 true)) a x := by
  obtain ⟨o, ho, h1, h2, h3⟩ := op_at (ops := (opsOf Tryz.f14 5)) (i := 123) (e := (.load 74 (.tmp 4), some 135, none)) (by kernel_rfl)
  have h3' : o.guard = none := h3
  have h2' : o.dst = some 135 := h2
  clear h2 h3
  refine wpOp_val (w' := x) ho h3' (v := val n 135) ?_ (by rw [h2']; exact hJ.quiet 123 135 (by decide) (by decide) (by decide) (by decide) (fun h => absurd h (by decide)))
  rw [vl135]
  exact sh_ld2 h1 ((hJ.kn 4 (.inl ⟨by decide, by decide⟩)).trans (by kernel_rfl)) (hJ.cell X.d0) (hJ.cell X.d1)
set_option maxRecDepth 100000 in
theorem opS124 {n : Nat} {x0 x : World} {listed : Array Bool} {a : Act} {Q : Exit → Act → World → Prop} (_X : X0 n x0) (hJ : OJ n x0 listed a x) (hr : 124 ∈ Region.ready .any (opsOf Tryz.f14 5) listed) : wpOp Tryz.prog (opsOf Tryz.f14 5) Q 124 (OJ n x0 (listed.setIfInBounds 124 true)) a x := by
  obtain ⟨o, ho, h1, h2, h3⟩ := op_at (ops := (opsOf Tryz.f14 5)) (i := 124) (e := (.makeFunc (.func 28) #[.tmp 135] #[], some 136, none)) (by kernel_rfl)
  have h3' : o.guard = none := h3
  have h2' : o.dst = some 136 := h2
  clear h2 h3
  refine wpOp_val (w' := x) ho h3' (v := val n 136) ?_ (by rw [h2']; exact hJ.quiet 124 136 (by decide) (by decide) (by decide) (by decide) (fun h => absurd h (by decide)))
  rw [vl136]
  exact sh_mf h1 ((hJ.at hr 135 ⟨by decide, by decide⟩ (by kernel_rfl)).trans (vl135 n))
set_option maxRecDepth 100000 in
theorem opS125 {n : Nat} {x0 x : World} {listed : Array Bool} {a : Act} {Q : Exit → Act → World → Prop} (_X : X0 n x0) (hJ : OJ n x0 listed a x) (hr : 125 ∈ Region.ready .any (opsOf Tryz.f14 5) listed) : wpOp Tryz.prog (opsOf Tryz.f14 5) Q 125 (OJ n x0 (listed.setIfInBounds 125 true)) a x := by
  obtain ⟨o, ho, h1, h2, h3⟩ := op_at (ops := (opsOf Tryz.f14 5)) (i := 125) (e := (.build 53 #[(0, .const (.string ⟨#[84, 105, 109, 101, 115, 116, 97, 109, 112, 69, 113, 117, 97, 108, 115, 80, 97, 116, 104]⟩)), (1, .tmp 134), (2, .tmp 136), (3, .const (.bool true))], some 137, none)) (by kernel_rfl)
  have h3' : o.guard = none := h3
  have h2' : o.dst = some 137 := h2
  clear h2 h3
  refine wpOp_val (w' := x) ho h3' (v := val n 137) ?_ (by rw [h2']; exact hJ.quiet 125 137 (by decide) (by decide) (by decide) (by decide) (fun h => absurd h (by decide)))
  rw [vl137]
  exact sh_b3 h1 ((hJ.at hr 134 ⟨by decide, by decide⟩ (by kernel_rfl)).trans (vl134 n)) ((hJ.at hr 136 ⟨by decide, by decide⟩ (by kernel_rfl)).trans (vl136 n))
set_option maxRecDepth 100000 in
theorem opS126 {n : Nat} {x0 x : World} {listed : Array Bool} {a : Act} {Q : Exit → Act → World → Prop} (_X : X0 n x0) (hJ : OJ n x0 listed a x) (_hr : 126 ∈ Region.ready .any (opsOf Tryz.f14 5) listed) : wpOp Tryz.prog (opsOf Tryz.f14 5) Q 126 (OJ n x0 (listed.setIfInBounds 126 true)) a x := by
  obtain ⟨o, ho, h1, h2, h3⟩ := op_at (ops := (opsOf Tryz.f14 5)) (i := 126) (e := (.fieldAddr 74 (.tmp 4) 0, some 138, none)) (by kernel_rfl)
  have h3' : o.guard = none := h3
  have h2' : o.dst = some 138 := h2
  clear h2 h3
  refine wpOp_val (w' := x) ho h3' (v := val n 138) ?_ (by rw [h2']; exact hJ.quiet 126 138 (by decide) (by decide) (by decide) (by decide) (fun h => absurd h (by decide)))
  rw [vl138]
  exact sh_fa h1 ((hJ.kn 4 (.inl ⟨by decide, by decide⟩)).trans (by kernel_rfl))
set_option maxRecDepth 100000 in
theorem opS127 {n : Nat} {x0 x : World} {listed : Array Bool} {a : Act} {Q : Exit → Act → World → Prop} (X : X0 n x0) (hJ : OJ n x0 listed a x) (hr : 127 ∈ Region.ready .any (opsOf Tryz.f14 5) listed) : wpOp Tryz.prog (opsOf Tryz.f14 5) Q 127 (OJ n x0 (listed.setIfInBounds 127 true)) a x := by
  obtain ⟨o, ho, h1, h2, h3⟩ := op_at (ops := (opsOf Tryz.f14 5)) (i := 127) (e := (.load 50 (.tmp 138), some 139, none)) (by kernel_rfl)
  have h3' : o.guard = none := h3
  have h2' : o.dst = some 139 := h2
  clear h2 h3
  refine wpOp_val (w' := x) ho h3' (v := val n 139) ?_ (by rw [h2']; exact hJ.quiet 127 139 (by decide) (by decide) (by decide) (by decide) (fun h => absurd h (by decide)))
  rw [vl139]
  exact sh_ld1 h1 ((hJ.at hr 138 ⟨by decide, by decide⟩ (by kernel_rfl)).trans (vl138 n)) (hJ.cell X.d0)
set_option maxRecDepth 100000 in
theorem opS128 {n : Nat} {x0 x : World} {listed : Array Bool} {a : Act} {Q : Exit → Act → World → Prop} (X : X0 n x0) (hJ : OJ n x0 listed a x) (_hr : 128 ∈ Region.ready .any (opsOf Tryz.f14 5) listed) : wpOp Tryz.prog (opsOf Tryz.f14 5) Q 128 (OJ n x0 (listed.setIfInBounds 128 true)) a x := by
  obtain ⟨o, ho, h1, h2, h3⟩ := op_at (ops := (opsOf Tryz.f14 5)) (i := 128) (e := (.load 74 (.tmp 4), some 140, none)) (by kernel_rfl)
  have h3' : o.guard = none := h3
  have h2' : o.dst = some 140 := h2
  clear h2 h3
  refine wpOp_val (w' := x) ho h3' (v := val n 140) ?_ (by rw [h2']; exact hJ.quiet 128 140 (by decide) (by decide) (by decide) (by decide) (fun h => absurd h (by decide)))
  rw [vl140]
  exact sh_ld2 h1 ((hJ.kn 4 (.inl ⟨by decide, by decide⟩)).trans (by kernel_rfl)) (hJ.cell X.d0) (hJ.cell X.d1)
set_option maxRecDepth 100000 in
theorem opS129 {n : Nat} {x0 x : World} {listed : Array Bool} {a : Act} {Q : Exit → Act → World → Prop} (_X : X0 n x0) (hJ : OJ n x0 listed a x) (hr : 129 ∈ Region.ready .any (opsOf Tryz.f14 5) listed) : wpOp Tryz.prog (opsOf Tryz.f14 5) Q 129 (OJ n x0 (listed.setIfInBounds 129 true)) a x := by
  obtain ⟨o, ho, h1, h2, h3⟩ := op_at (ops := (opsOf Tryz.f14 5)) (i := 129) (e := (.makeFunc (.func 29) #[.tmp 140] #[], some 141, none)) (by kernel_rfl)
  have h3' : o.guard = none := h3
  have h2' : o.dst = some 141 := h2
  clear h2 h3
  refine wpOp_val (w' := x) ho h3' (v := val n 141) ?_ (by rw [h2']; exact hJ.quiet 129 141 (by decide) (by decide) (by decide) (by decide) (fun h => absurd h (by decide)))
  rw [vl141]
  exact sh_mf h1 ((hJ.at hr 140 ⟨by decide, by decide⟩ (by kernel_rfl)).trans (vl140 n))
set_option maxRecDepth 100000 in
theorem opS130 {n : Nat} {x0 x : World} {listed : Array Bool} {a : Act} {Q : Exit → Act → World → Prop} (_X : X0 n x0) (hJ : OJ n x0 listed a x) (hr : 130 ∈ Region.ready .any (opsOf Tryz.f14 5) listed) : wpOp Tryz.prog (opsOf Tryz.f14 5) Q 130 (OJ n x0 (listed.setIfInBounds 130 true)) a x := by
  obtain ⟨o, ho, h1, h2, h3⟩ := op_at (ops := (opsOf Tryz.f14 5)) (i := 130) (e := (.build 53 #[(0, .const (.string ⟨#[84, 105, 109, 101, 115, 116, 97, 109, 112, 76, 101, 115, 115, 84, 104, 97, 110]⟩)), (1, .tmp 139), (2, .tmp 141)], some 142, none)) (by kernel_rfl)
  have h3' : o.guard = none := h3
  have h2' : o.dst = some 142 := h2
  clear h2 h3
  refine wpOp_val (w' := x) ho h3' (v := val n 142) ?_ (by rw [h2']; exact hJ.quiet 130 142 (by decide) (by decide) (by decide) (by decide) (fun h => absurd h (by decide)))
  rw [vl142]
  exact sh_b2 h1 ((hJ.at hr 139 ⟨by decide, by decide⟩ (by kernel_rfl)).trans (vl139 n)) ((hJ.at hr 141 ⟨by decide, by decide⟩ (by kernel_rfl)).trans (vl141 n))
set_option maxRecDepth 100000 in
theorem opS131 {n : Nat} {x0 x : World} {listed : Array Bool} {a : Act} {Q : Exit → Act → World → Prop} (_X : X0 n x0) (hJ : OJ n x0 listed a x) (_hr : 131 ∈ Region.ready .any (opsOf Tryz.f14 5) listed) : wpOp Tryz.prog (opsOf Tryz.f14 5) Q 131 (OJ n x0 (listed.setIfInBounds 131 true)) a x := by
  obtain ⟨o, ho, h1, h2, h3⟩ := op_at (ops := (opsOf Tryz.f14 5)) (i := 131) (e := (.fieldAddr 74 (.tmp 4) 0, some 143, none)) (by kernel_rfl)
  have h3' : o.guard = none := h3
  have h2' : o.dst = some 143 := h2
  clear h2 h3
  refine wpOp_val (w' := x) ho h3' (v := val n 143) ?_ (by rw [h2']; exact hJ.quiet 131 143 (by decide) (by decide) (by decide) (by decide) (fun h => absurd h (by decide)))
  rw [vl143]
  exact sh_fa h1 ((hJ.kn 4 (.inl ⟨by decide, by decide⟩)).trans (by kernel_rfl))
set_option maxRecDepth 100000 in
theorem opS132 {n : Nat} {x0 x : World} {listed : Array Bool} {a : Act} {Q : Exit → Act → World → Prop} (X : X0 n x0) (hJ : OJ n x0 listed a x) (hr : 132 ∈ Region.ready .any (opsOf Tryz.f14 5) listed) : wpOp Tryz.prog (opsOf Tryz.f14 5) Q 132 (OJ n x0 (listed.setIfInBounds 132 true)) a x := by
  obtain ⟨o, ho, h1, h2, h3⟩ := op_at (ops := (opsOf Tryz.f14 5)) (i := 132) (e := (.load 50 (.tmp 143), some 144, none)) (by kernel_rfl)
  have h3' : o.guard = none := h3
  have h2' : o.dst = some 144 := h2
  clear h2 h3
  refine wpOp_val (w' := x) ho h3' (v := val n 144) ?_ (by rw [h2']; exact hJ.quiet 132 144 (by decide) (by decide) (by decide) (by decide) (fun h => absurd h (by decide)))
  rw [vl144]
  exact sh_ld1 h1 ((hJ.at hr 143 ⟨by decide, by decide⟩ (by kernel_rfl)).trans (vl143 n)) (hJ.cell X.d0)
set_option maxRecDepth 100000 in
theorem opS133 {n : Nat} {x0 x : World} {listed : Array Bool} {a : Act} {Q : Exit → Act → World → Prop} (X : X0 n x0) (hJ : OJ n x0 listed a x) (_hr : 133 ∈ Region.ready .any (opsOf Tryz.f14 5) listed) : wpOp Tryz.prog (opsOf Tryz.f14 5) Q 133 (OJ n x0 (listed.setIfInBounds 133 true)) a x := by
  obtain ⟨o, ho, h1, h2, h3⟩ := op_at (ops := (opsOf Tryz.f14 5)) (i := 133) (e := (.load 74 (.tmp 4), some 145, none)) (by kernel_rfl)
  have h3' : o.guard = none := h3
  have h2' : o.dst = some 145 := h2
  clear h2 h3
  refine wpOp_val (w' := x) ho h3' (v := val n 145) ?_ (by rw [h2']; exact hJ.quiet 133 145 (by decide) (by decide) (by decide) (by decide) (fun h => absurd h (by decide)))
  rw [vl145]
  exact sh_ld2 h1 ((hJ.kn 4 (.inl ⟨by decide, by decide⟩)).trans (by kernel_rfl)) (hJ.cell X.d0) (hJ.cell X.d1)
set_option maxRecDepth 100000 in
theorem opS134 {n : Nat} {x0 x : World} {listed : Array Bool} {a : Act} {Q : Exit → Act → World → Prop} (_X : X0 n x0) (hJ : OJ n x0 listed a x) (hr : 134 ∈ Region.ready .any (opsOf Tryz.f14 5) listed) : wpOp Tryz.prog (opsOf Tryz.f14 5) Q 134 (OJ n x0 (listed.setIfInBounds 134 true)) a x := by
  obtain ⟨o, ho, h1, h2, h3⟩ := op_at (ops := (opsOf Tryz.f14 5)) (i := 134) (e := (.makeFunc (.func 29) #[.tmp 145] #[], some 146, none)) (by kernel_rfl)
  have h3' : o.guard = none := h3
  have h2' : o.dst = some 146 := h2
  clear h2 h3
  refine wpOp_val (w' := x) ho h3' (v := val n 146) ?_ (by rw [h2']; exact hJ.quiet 134 146 (by decide) (by decide) (by decide) (by decide) (fun h => absurd h (by decide)))
  rw [vl146]
  exact sh_mf h1 ((hJ.at hr 145 ⟨by decide, by decide⟩ (by kernel_rfl)).trans (vl145 n))
set_option maxRecDepth 100000 in
theorem opS135 {n : Nat} {x0 x : World} {listed : Array Bool} {a : Act} {Q : Exit → Act → World → Prop} (_X : X0 n x0) (hJ : OJ n x0 listed a x) (hr : 135 ∈ Region.ready .any (opsOf Tryz.f14 5) listed) : wpOp Tryz.prog (opsOf Tryz.f14 5) Q 135 (OJ n x0 (listed.setIfInBounds 135 true)) a x := by
  obtain ⟨o, ho, h1, h2, h3⟩ := op_at (ops := (opsOf Tryz.f14 5)) (i := 135) (e := (.build 53 #[(0, .const (.string ⟨#[84, 105, 109, 101, 115, 116, 97, 109, 112, 76, 101, 115, 115, 84, 104, 97, 110, 80, 97, 116, 104]⟩)), (1, .tmp 144), (2, .tmp 146), (3, .const (.bool true))], some 147, none)) (by kernel_rfl)
  have h3' : o.guard = none := h3
  have h2' : o.dst = some 147 := h2
  clear h2 h3
  refine wpOp_val (w' := x) ho h3' (v := val n 147) ?_ (by rw [h2']; exact hJ.quiet 135 147 (by decide) (by decide) (by decide) (by decide) (fun h => absurd h (by decide)))
  rw [vl147]
  exact sh_b3 h1 ((hJ.at hr 144 ⟨by decide, by decide⟩ (by kernel_rfl)).trans (vl144 n)) ((hJ.at hr 146 ⟨by decide, by decide⟩ (by kernel_rfl)).trans (vl146 n))
set_option maxRecDepth 100000 in
theorem opS136 {n : Nat} {x0 x : World} {listed : Array Bool} {a : Act} {Q : Exit → Act → World → Prop} (_X : X0 n x0) (hJ : OJ n x0 listed a x) (_hr : 136 ∈ Region.ready .any (opsOf Tryz.f14 5) listed) : wpOp Tryz.prog (opsOf Tryz.f14 5) Q 136 (OJ n x0 (listed.setIfInBounds 136 true)) a x := by
  obtain ⟨o, ho, h1, h2, h3⟩ := op_at (ops := (opsOf Tryz.f14 5)) (i := 136) (e := (.fieldAddr 74 (.tmp 4) 0, some 148, none)) (by kernel_rfl)
  have h3' : o.guard = none := h3
  have h2' : o.dst = some 148 := h2
  clear h2 h3
  refine wpOp_val (w' := x) ho h3' (v := val n 148) ?_ (by rw [h2']; exact hJ.quiet 136 148 (by decide) (by decide) (by decide) (by decide) (fun h => absurd h (by decide)))
  rw [vl148]
  exact sh_fa h1 ((hJ.kn 4 (.inl ⟨by decide, by decide⟩)).trans (by kernel_rfl))
set_option maxRecDepth 100000 in
theorem opS137 {n : Nat} {x0 x : World} {listed : Array Bool} {a : Act} {Q : Exit → Act → World → Prop} (X : X0 n x0) (hJ : OJ n x0 listed a x) (hr : 137 ∈ Region.ready .any (opsOf Tryz.f14 5) listed) : wpOp Tryz.prog (opsOf Tryz.f14 5) Q 137 (OJ n x0 (listed.setIfInBounds 137 true)) a x := by
  obtain ⟨o, ho, h1, h2, h3⟩ := op_at (ops := (opsOf Tryz.f14 5)) (i := 137) (e := (.load 50 (.tmp 148), some 149, none)) (by kernel_rfl)
  have h3' : o.guard = none := h3
  have h2' : o.dst = some 149 := h2
  clear h2 h3
  refine wpOp_val (w' := x) ho h3' (v := val n 149) ?_ (by rw [h2']; exact hJ.quiet 137 149 (by decide) (by decide) (by decide) (by decide) (fun h => absurd h (by decide)))
  rw [vl149]
  exact sh_ld1 h1 ((hJ.at hr 148 ⟨by decide, by decide⟩ (by kernel_rfl)).trans (vl148 n)) (hJ.cell X.d0)
set_option maxRecDepth 100000 in
theorem opS138 {n : Nat} {x0 x : World} {listed : Array Bool} {a : Act} {Q : Exit → Act → World → Prop} (X : X0 n x0) (hJ : OJ n x0 listed a x) (_hr : 138 ∈ Region.ready .any (opsOf Tryz.f14 5) listed) : wpOp Tryz.prog (opsOf Tryz.f14 5) Q 138 (OJ n x0 (listed.setIfInBounds 138 true)) a x := by
  obtain ⟨o, ho, h1, h2, h3⟩ := op_at (ops := (opsOf Tryz.f14 5)) (i := 138) (e := (.load 74 (.tmp 4), some 150, none)) (by kernel_rfl)
  have h3' : o.guard = none := h3
  have h2' : o.dst = some 150 := h2
  clear h2 h3
  refine wpOp_val (w' := x) ho h3' (v := val n 150) ?_ (by rw [h2']; exact hJ.quiet 138 150 (by decide) (by decide) (by decide) (by decide) (fun h => absurd h (by decide)))
  rw [vl150]
  exact sh_ld2 h1 ((hJ.kn 4 (.inl ⟨by decide, by decide⟩)).trans (by kernel_rfl)) (hJ.cell X.d0) (hJ.cell X.d1)
set_option maxRecDepth 100000 in
theorem opS139 {n : Nat} {x0 x : World} {listed : Array Bool} {a : Act} {Q : Exit → Act → World → Prop} (_X : X0 n x0) (hJ : OJ n x0 listed a x) (hr : 139 ∈ Region.ready .any (opsOf Tryz.f14 5) listed) : wpOp Tryz.prog (opsOf Tryz.f14 5) Q 139 (OJ n x0 (listed.setIfInBounds 139 true)) a x := by
  obtain ⟨o, ho, h1, h2, h3⟩ := op_at (ops := (opsOf Tryz.f14 5)) (i := 139) (e := (.makeFunc (.func 30) #[.tmp 150] #[], some 151, none)) (by kernel_rfl)
  have h3' : o.guard = none := h3
  have h2' : o.dst = some 151 := h2
  clear h2 h3
  refine wpOp_val (w' := x) ho h3' (v := val n 151) ?_ (by rw [h2']; exact hJ.quiet 139 151 (by decide) (by decide) (by decide) (by decide) (fun h => absurd h (by decide)))
  rw [vl151]
  exact sh_mf h1 ((hJ.at hr 150 ⟨by decide, by decide⟩ (by kernel_rfl)).trans (vl150 n))
set_option maxRecDepth 100000 in
theorem opS140 {n : Nat} {x0 x : World} {listed : Array Bool} {a : Act} {Q : Exit → Act → World → Prop} (_X : X0 n x0) (hJ : OJ n x0 listed a x) (hr : 140 ∈ Region.ready .any (opsOf Tryz.f14 5) listed) : wpOp Tryz.prog (opsOf Tryz.f14 5) Q 140 (OJ n x0 (listed.setIfInBounds 140 true)) a x := by
  obtain ⟨o, ho, h1, h2, h3⟩ := op_at (ops := (opsOf Tryz.f14 5)) (i := 140) (e := (.build 53 #[(0, .const (.string ⟨#[84, 105, 109, 101, 115, 116, 97, 109, 112, 71, 114, 101, 97, 116, 101, 114, 84, 104, 97, 110]⟩)), (1, .tmp 149), (2, .tmp 151)], some 152, none)) (by kernel_rfl)
  have h3' : o.guard = none := h3
  have h2' : o.dst = some 152 := h2
  clear h2 h3
  refine wpOp_val (w' := x) ho h3' (v := val n 152) ?_ (by rw [h2']; exact hJ.quiet 140 152 (by decide) (by decide) (by decide) (by decide) (fun h => absurd h (by decide)))
  rw [vl152]
  exact sh_b2 h1 ((hJ.at hr 149 ⟨by decide, by decide⟩ (by kernel_rfl)).trans (vl149 n)) ((hJ.at hr 151 ⟨by decide, by decide⟩ (by kernel_rfl)).trans (vl151 n))
set_option maxRecDepth 100000 in
theorem opS141 {n : Nat} {x0 x : World} {listed : Array Bool} {a : Act} {Q : Exit → Act → World → Prop} (_X : X0 n x0) (hJ : OJ n x0 listed a x) (_hr : 141 ∈ Region.ready .any (opsOf Tryz.f14 5) listed) : wpOp Tryz.prog (opsOf Tryz.f14 5) Q 141 (OJ n x0 (listed.setIfInBounds 141 true)) a x := by
  obtain ⟨o, ho, h1, h2, h3⟩ := op_at (ops := (opsOf Tryz.f14 5)) (i := 141) (e := (.fieldAddr 74 (.tmp 4) 0, some 153, none)) (by kernel_rfl)
  have h3' : o.guard = none := h3
  have h2' : o.dst = some 153 := h2
  clear h2 h3
  refine wpOp_val (w' := x) ho h3' (v := val n 153) ?_ (by rw [h2']; exact hJ.quiet 141 153 (by decide) (by decide) (by decide) (by decide) (fun h => absurd h (by decide)))
  rw [vl153]
  exact sh_fa h1 ((hJ.kn 4 (.inl ⟨by decide, by decide⟩)).trans (by kernel_rfl))
set_option maxRecDepth 100000 in
theorem opS142 {n : Nat} {x0 x : World} {listed : Array Bool} {a : Act} {Q : Exit → Act → World → Prop} (X : X0 n x0) (hJ : OJ n x0 listed a x) (hr : 142 ∈ Region.ready .any (opsOf Tryz.f14 5) listed) : wpOp Tryz.prog (opsOf Tryz.f14 5) Q 142 (OJ n x0 (listed.setIfInBounds 142 true)) a x := by
  obtain ⟨o, ho, h1, h2, h3⟩ := op_at (ops := (opsOf Tryz.f14 5)) (i := 142) (e := (.load 50 (.tmp 153), some 154, none)) (by kernel_rfl)
  have h3' : o.guard = none := h3
  have h2' : o.dst = some 154 := h2
  clear h2 h3
  refine wpOp_val (w' := x) ho h3' (v := val n 154) ?_ (by rw [h2']; exact hJ.quiet 142 154 (by decide) (by decide) (by decide) (by decide) (fun h => absurd h (by decide)))
  rw [vl154]
  exact sh_ld1 h1 ((hJ.at hr 153 ⟨by decide, by decide⟩ (by kernel_rfl)).trans (vl153 n)) (hJ.cell X.d0)
set_option maxRecDepth 100000 in
theorem opS143 {n : Nat} {x0 x : World} {listed : Array Bool} {a : Act} {Q : Exit → Act → World → Prop} (X : X0 n x0) (hJ : OJ n x0 listed a x) (_hr : 143 ∈ Region.ready .any (opsOf Tryz.f14 5) listed) : wpOp Tryz.prog (opsOf Tryz.f14 5) Q 143 (OJ n x0 (listed.setIfInBounds 143 true)) a x := by
  obtain ⟨o, ho, h1, h2, h3⟩ := op_at (ops := (opsOf Tryz.f14 5)) (i := 143) (e := (.load 74 (.tmp 4), some 155, none)) (by kernel_rfl)
  have h3' : o.guard = none := h3
  have h2' : o.dst = some 155 := h2
  clear h2 h3
  refine wpOp_val (w' := x) ho h3' (v := val n 155) ?_ (by rw [h2']; exact hJ.quiet 143 155 (by decide) (by decide) (by decide) (by decide) (fun h => absurd h (by decide)))
  rw [vl155]
  exact sh_ld2 h1 ((hJ.kn 4 (.inl ⟨by decide, by decide⟩)).trans (by kernel_rfl)) (hJ.cell X.d0) (hJ.cell X.d1)
set_option maxRecDepth 100000 in
theorem opS144 {n : Nat} {x0 x : World} {listed : Array Bool} {a : Act} {Q : Exit → Act → World → Prop} (_X : X0 n x0) (hJ : OJ n x0 listed a x) (hr : 144 ∈ Region.ready .any (opsOf Tryz.f14 5) listed) : wpOp Tryz.prog (opsOf Tryz.f14 5) Q 144 (OJ n x0 (listed.setIfInBounds 144 true)) a x := by
  obtain ⟨o, ho, h1, h2, h3⟩ := op_at (ops := (opsOf Tryz.f14 5)) (i := 144) (e := (.makeFunc (.func 30) #[.tmp 155] #[], some 156, none)) (by kernel_rfl)
  have h3' : o.guard = none := h3
  have h2' : o.dst = some 156 := h2
  clear h2 h3
  refine wpOp_val (w' := x) ho h3' (v := val n 156) ?_ (by rw [h2']; exact hJ.quiet 144 156 (by decide) (by decide) (by decide) (by decide) (fun h => absurd h (by decide)))
  rw [vl156]
  exact sh_mf h1 ((hJ.at hr 155 ⟨by decide, by decide⟩ (by kernel_rfl)).trans (vl155 n))
set_option maxRecDepth 100000 in
theorem opS145 {n : Nat} {x0 x : World} {listed : Array Bool} {a : Act} {Q : Exit → Act → World → Prop} (_X : X0 n x0) (hJ : OJ n x0 listed a x) (hr : 145 ∈ Region.ready .any (opsOf Tryz.f14 5) listed) : wpOp Tryz.prog (opsOf Tryz.f14 5) Q 145 (OJ n x0 (listed.setIfInBounds 145 true)) a x := by
  obtain ⟨o, ho, h1, h2, h3⟩ := op_at (ops := (opsOf Tryz.f14 5)) (i := 145) (e := (.build 53 #[(0, .const (.string ⟨#[84, 105, 109, 101, 115, 116, 97, 109, 112, 71, 114, 101, 97, 116, 101, 114, 84, 104, 97, 110, 80, 97, 116, 104]⟩)), (1, .tmp 154), (2, .tmp 156), (3, .const (.bool true))], some 157, none)) (by kernel_rfl)
  have h3' : o.guard = none := h3
  have h2' : o.dst = some 157 := h2
  clear h2 h3
  refine wpOp_val (w' := x) ho h3' (v := val n 157) ?_ (by rw [h2']; exact hJ.quiet 145 157 (by decide) (by decide) (by decide) (by decide) (fun h => absurd h (by decide)))
  rw [vl157]
  exact sh_b3 h1 ((hJ.at hr 154 ⟨by decide, by decide⟩ (by kernel_rfl)).trans (vl154 n)) ((hJ.at hr 156 ⟨by decide, by decide⟩ (by kernel_rfl)).trans (vl156 n))
set_option maxRecDepth 100000 in
theorem opS146 {n : Nat} {x0 x : World} {listed : Array Bool} {a : Act} {Q : Exit → Act → World → Prop} (_X : X0 n x0) (hJ : OJ n x0 listed a x) (_hr : 146 ∈ Region.ready .any (opsOf Tryz.f14 5) listed) : wpOp Tryz.prog (opsOf Tryz.f14 5) Q 146 (OJ n x0 (listed.setIfInBounds 146 true)) a x := by
  obtain ⟨o, ho, h1, h2, h3⟩ := op_at (ops := (opsOf Tryz.f14 5)) (i := 146) (e := (.fieldAddr 74 (.tmp 4) 0, some 158, none)) (by kernel_rfl)
  have h3' : o.guard = none := h3
  have h2' : o.dst = some 158 := h2
  clear h2 h3
  refine wpOp_val (w' := x) ho h3' (v := val n 158) ?_ (by rw [h2']; exact hJ.quiet 146 158 (by decide) (by decide) (by decide) (by decide) (fun h => absurd h (by decide)))
  rw [vl158]
  exact sh_fa h1 ((hJ.kn 4 (.inl ⟨by decide, by decide⟩)).trans (by kernel_rfl))
set_option maxRecDepth 100000 in
theorem opS147 {n : Nat} {x0 x : World} {listed : Array Bool} {a : Act} {Q : Exit → Act → World → Prop} (X : X0 n x0) (hJ : OJ n x0 listed a x) (hr : 147 ∈ Region.ready .any (opsOf Tryz.f14 5) listed) : wpOp Tryz.prog (opsOf Tryz.f14 5) Q 147 (OJ n x0 (listed.setIfInBounds 147 true)) a x := by
  obtain ⟨o, ho, h1, h2, h3⟩ := op_at (ops := (opsOf Tryz.f14 5)) (i := 147) (e := (.load 50 (.tmp 158), some 159, none)) (by kernel_rfl)
  have h3' : o.guard = none := h3
  have h2' : o.dst = some 159 := h2
  clear h2 h3
  refine wpOp_val (w' := x) ho h3' (v := val n 159) ?_ (by rw [h2']; exact hJ.quiet 147 159 (by decide) (by decide) (by decide) (by decide) (fun h => absurd h (by decide)))
  rw [vl159]
  exact sh_ld1 h1 ((hJ.at hr 158 ⟨by decide, by decide⟩ (by kernel_rfl)).trans (vl158 n)) (hJ.cell X.d0)
set_option maxRecDepth 100000 in
theorem opS148 {n : Nat} {x0 x : World} {listed : Array Bool} {a : Act} {Q : Exit → Act → World → Prop} (X : X0 n x0) (hJ : OJ n x0 listed a x) (_hr : 148 ∈ Region.ready .any (opsOf Tryz.f14 5) listed) : wpOp Tryz.prog (opsOf Tryz.f14 5) Q 148 (OJ n x0 (listed.setIfInBounds 148 true)) a x := by
  obtain ⟨o, ho, h1, h2, h3⟩ := op_at (ops := (opsOf Tryz.f14 5)) (i := 148) (e := (.load 74 (.tmp 4), some 160, none)) (by kernel_rfl)
  have h3' : o.guard = none := h3
  have h2' : o.dst = some 160 := h2
  clear h2 h3
  refine wpOp_val (w' := x) ho h3' (v := val n 160) ?_ (by rw [h2']; exact hJ.quiet 148 160 (by decide) (by decide) (by decide) (by decide) (fun h => absurd h (by decide)))
  rw [vl160]
  exact sh_ld2 h1 ((hJ.kn 4 (.inl ⟨by decide, by decide⟩)).trans (by kernel_rfl)) (hJ.cell X.d0) (hJ.cell X.d1)
set_option maxRecDepth 100000 in
theorem opS149 {n : Nat} {x0 x : World} {listed : Array Bool} {a : Act} {Q : Exit → Act → World → Prop} (_X : X0 n x0) (hJ : OJ n x0 listed a x) (hr : 149 ∈ Region.ready .any (opsOf Tryz.f14 5) listed) : wpOp Tryz.prog (opsOf Tryz.f14 5) Q 149 (OJ n x0 (listed.setIfInBounds 149 true)) a x := by
  obtain ⟨o, ho, h1, h2, h3⟩ := op_at (ops := (opsOf Tryz.f14 5)) (i := 149) (e := (.makeFunc (.func 31) #[.tmp 160] #[], some 161, none)) (by kernel_rfl)
  have h3' : o.guard = none := h3
  have h2' : o.dst = some 161 := h2
  clear h2 h3
  refine wpOp_val (w' := x) ho h3' (v := val n 161) ?_ (by rw [h2']; exact hJ.quiet 149 161 (by decide) (by decide) (by decide) (by decide) (fun h => absurd h (by decide)))
  rw [vl161]
  exact sh_mf h1 ((hJ.at hr 160 ⟨by decide, by decide⟩ (by kernel_rfl)).trans (vl160 n))
set_option maxRecDepth 100000 in
theorem opS150 {n : Nat} {x0 x : World} {listed : Array Bool} {a : Act} {Q : Exit → Act → World → Prop} (_X : X0 n x0) (hJ : OJ n x0 listed a x) (hr : 150 ∈ Region.ready .any (opsOf Tryz.f14 5) listed) : wpOp Tryz.prog (opsOf Tryz.f14 5) Q 150 (OJ n x0 (listed.setIfInBounds 150 true)) a x := by
  obtain ⟨o, ho, h1, h2, h3⟩ := op_at (ops := (opsOf Tryz.f14 5)) (i := 150) (e := (.build 53 #[(0, .const (.string ⟨#[84, 105, 109, 101, 115, 116, 97, 109, 112, 76, 101, 115, 115, 84, 104, 97, 110, 69, 113, 117, 97, 108, 115]⟩)), (1, .tmp 159), (2, .tmp 161)], some 162, none)) (by kernel_rfl)
  have h3' : o.guard = none := h3
  have h2' : o.dst = some 162 := h2
  clear h2 h3
  refine wpOp_val (w' := x) ho h3' (v := val n 162) ?_ (by rw [h2']; exact hJ.quiet 150 162 (by decide) (by decide) (by decide) (by decide) (fun h => absurd h (by decide)))
  rw [vl162]
  exact sh_b2 h1 ((hJ.at hr 159 ⟨by decide, by decide⟩ (by kernel_rfl)).trans (vl159 n)) ((hJ.at hr 161 ⟨by decide, by decide⟩ (by kernel_rfl)).trans (vl161 n))
set_option maxRecDepth 100000 in
theorem opS151 {n : Nat} {x0 x : World} {listed : Array Bool} {a : Act} {Q : Exit → Act → World → Prop} (_X : X0 n x0) (hJ : OJ n x0 listed a x) (_hr : 151 ∈ Region.ready .any (opsOf Tryz.f14 5) listed) : wpOp Tryz.prog (opsOf Tryz.f14 5) Q 151 (OJ n x0 (listed.setIfInBounds 151 true)) a x := by
  obtain ⟨o, ho, h1, h2, h3⟩ := op_at (ops := (opsOf Tryz.f14 5)) (i := 151) (e := (.fieldAddr 74 (.tmp 4) 0, some 163, none)) (by kernel_rfl)
  have h3' : o.guard = none := h3
  have h2' : o.dst = some 163 := h2
  clear h2 h3
  refine wpOp_val (w' := x) ho h3' (v := val n 163) ?_ (by rw [h2']; exact hJ.quiet 151 163 (by decide) (by decide) (by decide) (by decide) (fun h => absurd h (by decide)))
  rw [vl163]
  exact sh_fa h1 ((hJ.kn 4 (.inl ⟨by decide, by decide⟩)).trans (by kernel_rfl))
set_option maxRecDepth 100000 in
theorem opS152 {n : Nat} {x0 x : World} {listed : Array Bool} {a : Act} {Q : Exit → Act → World → Prop} (X : X0 n x0) (hJ : OJ n x0 listed a x) (hr : 152 ∈ Region.ready .any (opsOf Tryz.f14 5) listed) : wpOp Tryz.prog (opsOf Tryz.f14 5) Q 152 (OJ n x0 (listed.setIfInBounds 152 true)) a x := by
  obtain ⟨o, ho, h1, h2, h3⟩ := op_at (ops := (opsOf Tryz.f14 5)) (i := 152) (e := (.load 50 (.tmp 163), some 164, none)) (by kernel_rfl)
  have h3' : o.guard = none := h3
  have h2' : o.dst = some 164 := h2
  clear h2 h3
  refine wpOp_val (w' := x) ho h3' (v := val n 164) ?_ (by rw [h2']; exact hJ.quiet 152 164 (by decide) (by decide) (by decide) (by decide) (fun h => absurd h (by decide)))
  rw [vl164]
  exact sh_ld1 h1 ((hJ.at hr 163 ⟨by decide, by decide⟩ (by kernel_rfl)).trans (vl163 n)) (hJ.cell X.d0)
set_option maxRecDepth 100000 in
theorem opS153 {n : Nat} {x0 x : World} {listed : Array Bool} {a : Act} {Q : Exit → Act → World → Prop} (X : X0 n x0) (hJ : OJ n x0 listed a x) (_hr : 153 ∈ Region.ready .any (opsOf Tryz.f14 5) listed) : wpOp Tryz.prog (opsOf Tryz.f14 5) Q 153 (OJ n x0 (listed.setIfInBounds 153 true)) a x := by
  obtain ⟨o, ho, h1, h2, h3⟩ := op_at (ops := (opsOf Tryz.f14 5)) (i := 153) (e := (.load 74 (.tmp 4), some 165, none)) (by kernel_rfl)
  have h3' : o.guard = none := h3
  have h2' : o.dst = some 165 := h2
  clear h2 h3
  refine wpOp_val (w' := x) ho h3' (v := val n 165) ?_ (by rw [h2']; exact hJ.quiet 153 165 (by decide) (by decide) (by decide) (by decide) (fun h => absurd h (by decide)))
  rw [vl165]
  exact sh_ld2 h1 ((hJ.kn 4 (.inl ⟨by decide, by decide⟩)).trans (by kernel_rfl)) (hJ.cell X.d0) (hJ.cell X.d1)
set_option maxRecDepth 100000 in
theorem opS154 {n : Nat} {x0 x : World} {listed : Array Bool} {a : Act} {Q : Exit → Act → World → Prop} (_X : X0 n x0) (hJ : OJ n x0 listed a x) (hr : 154 ∈ Region.ready .any (opsOf Tryz.f14 5) listed) : wpOp Tryz.prog (opsOf Tryz.f14 5) Q 154 (OJ n x0 (listed.setIfInBounds 154 true)) a x := by
  obtain ⟨o, ho, h1, h2, h3⟩ := op_at (ops := (opsOf Tryz.f14 5)) (i := 154) (e := (.makeFunc (.func 31) #[.tmp 165] #[], some 166, none)) (by kernel_rfl)
  have h3' : o.guard = none := h3
  have h2' : o.dst = some 166 := h2
  clear h2 h3
  refine wpOp_val (w' := x) ho h3' (v := val n 166) ?_ (by rw [h2']; exact hJ.quiet 154 166 (by decide) (by decide) (by decide) (by decide) (fun h => absurd h (by decide)))
  rw [vl166]
  exact sh_mf h1 ((hJ.at hr 165 ⟨by decide, by decide⟩ (by kernel_rfl)).trans (vl165 n))
set_option maxRecDepth 100000 in
theorem opS155 {n : Nat} {x0 x : World} {listed : Array Bool} {a : Act} {Q : Exit → Act → World → Prop} (_X : X0 n x0) (hJ : OJ n x0 listed a x) (hr : 155 ∈ Region.ready .any (opsOf Tryz.f14 5) listed) : wpOp Tryz.prog (opsOf Tryz.f14 5) Q 155 (OJ n x0 (listed.setIfInBounds 155 true)) a x := by
  obtain ⟨o, ho, h1, h2, h3⟩ := op_at (ops := (opsOf Tryz.f14 5)) (i := 155) (e := (.build 53 #[(0, .const (.string ⟨#[84, 105, 109, 101, 115, 116, 97, 109, 112, 76, 101, 115, 115, 84, 104, 97, 110, 69, 113, 117, 97, 108, 115, 80, 97, 116, 104]⟩)), (1, .tmp 164), (2, .tmp 166), (3, .const (.bool true))], some 167, none)) (by kernel_rfl)
  have h3' : o.guard = none := h3
  have h2' : o.dst = some 167 := h2
  clear h2 h3
  refine wpOp_val (w' := x) ho h3' (v := val n 167) ?_ (by rw [h2']; exact hJ.quiet 155 167 (by decide) (by decide) (by decide) (by decide) (fun h => absurd h (by decide)))
  rw [vl167]
  exact sh_b3 h1 ((hJ.at hr 164 ⟨by decide, by decide⟩ (by kernel_rfl)).trans (vl164 n)) ((hJ.at hr 166 ⟨by decide, by decide⟩ (by kernel_rfl)).trans (vl166 n))
set_option maxRecDepth 100000 in
theorem opS156 {n : Nat} {x0 x : World} {listed : Array Bool} {a : Act} {Q : Exit → Act → World → Prop} (_X : X0 n x0) (hJ : OJ n x0 listed a x) (_hr : 156 ∈ Region.ready .any (opsOf Tryz.f14 5) listed) : wpOp Tryz.prog (opsOf Tryz.f14 5) Q 156 (OJ n x0 (listed.setIfInBounds 156 true)) a x := by
  obtain ⟨o, ho, h1, h2, h3⟩ := op_at (ops := (opsOf Tryz.f14 5)) (i := 156) (e := (.fieldAddr 74 (.tmp 4) 0, some 168, none)) (by kernel_rfl)
  have h3' : o.guard = none := h3
  have h2' : o.dst = some 168 := h2
  clear h2 h3
  refine wpOp_val (w' := x) ho h3' (v := val n 168) ?_ (by rw [h2']; exact hJ.quiet 156 168 (by decide) (by decide) (by decide) (by decide) (fun h => absurd h (by decide)))
  rw [vl168]
  exact sh_fa h1 ((hJ.kn 4 (.inl ⟨by decide, by decide⟩)).trans (by kernel_rfl))
set_option maxRecDepth 100000 in
theorem opS157 {n : Nat} {x0 x : World} {listed : Array Bool} {a : Act} {Q : Exit → Act → World → Prop} (X : X0 n x0) (hJ : OJ n x0 listed a x) (hr : 157 ∈ Region.ready .any (opsOf Tryz.f14 5) listed) : wpOp Tryz.prog (opsOf Tryz.f14 5) Q 157 (OJ n x0 (listed.setIfInBounds 157 true)) a x := by
  obtain ⟨o, ho, h1, h2, h3⟩ := op_at (ops := (opsOf Tryz.f14 5)) (i := 157) (e := (.load 50 (.tmp 168), some 169, none)) (by kernel_rfl)
  have h3' : o.guard = none := h3
  have h2' : o.dst = some 169 := h2
  clear h2 h3
  refine wpOp_val (w' := x) ho h3' (v := val n 169) ?_ (by rw [h2']; exact hJ.quiet 157 169 (by decide) (by decide) (by decide) (by decide) (fun h => absurd h (by decide)))
  rw [vl169]
  exact sh_ld1 h1 ((hJ.at hr 168 ⟨by decide, by decide⟩ (by kernel_rfl)).trans (vl168 n)) (hJ.cell X.d0)
set_option maxRecDepth 100000 in
theorem opS158 {n : Nat} {x0 x : World} {listed : Array Bool} {a : Act} {Q : Exit → Act → World → Prop} (X : X0 n x0) (hJ : OJ n x0 listed a x) (_hr : 158 ∈ Region.ready .any (opsOf Tryz.f14 5) listed) : wpOp Tryz.prog (opsOf Tryz.f14 5) Q 158 (OJ n x0 (listed.setIfInBounds 158 true)) a x := by
  obtain ⟨o, ho, h1, h2, h3⟩ := op_at (ops := (opsOf Tryz.f14 5)) (i := 158) (e := (.load 74 (.tmp 4), some 170, none)) (by kernel_rfl)
  have h3' : o.guard = none := h3
  have h2' : o.dst = some 170 := h2
  clear h2 h3
  refine wpOp_val (w' := x) ho h3' (v := val n 170) ?_ (by rw [h2']; exact hJ.quiet 158 170 (by decide) (by decide) (by decide) (by decide) (fun h => absurd h (by decide)))
  rw [vl170]
  exact sh_ld2 h1 ((hJ.kn 4 (.inl ⟨by decide, by decide⟩)).trans (by kernel_rfl)) (hJ.cell X.d0) (hJ.cell X.d1)
set_option maxRecDepth 100000 in
theorem opS159 {n : Nat} {x0 x : World} {listed : Array Bool} {a : Act} {Q : Exit → Act → World → Prop} (_X : X0 n x0) (hJ : OJ n x0 listed a x) (hr : 159 ∈ Region.ready .any (opsOf Tryz.f14 5) listed) : wpOp Tryz.prog (opsOf Tryz.f14 5) Q 159 (OJ n x0 (listed.setIfInBounds 159 true)) a x := by
  obtain ⟨o, ho, h1, h2, h3⟩ := op_at (ops := (opsOf Tryz.f14 5)) (i := 159) (e := (.makeFunc (.func 32) #[.tmp 170] #[], some 171, none)) (by kernel_rfl)
  have h3' : o.guard = none := h3
  have h2' : o.dst = some 171 := h2
  clear h2 h3
  refine wpOp_val (w' := x) ho h3' (v := val n 171) ?_ (by rw [h2']; exact hJ.quiet 159 171 (by decide) (by decide) (by decide) (by decide) (fun h => absurd h (by decide)))
  rw [vl171]
  exact sh_mf h1 ((hJ.at hr 170 ⟨by decide, by decide⟩ (by kernel_rfl)).trans (vl170 n))
set_option maxRecDepth 100000 in
theorem opS160 {n : Nat} {x0 x : World} {listed : Array Bool} {a : Act} {Q : Exit → Act → World → Prop} (_X : X0 n x0) (hJ : OJ n x0 listed a x) (hr : 160 ∈ Region.ready .any (opsOf Tryz.f14 5) listed) : wpOp Tryz.prog (opsOf Tryz.f14 5) Q 160 (OJ n x0 (listed.setIfInBounds 160 true)) a x := by
  obtain ⟨o, ho, h1, h2, h3⟩ := op_at (ops := (opsOf Tryz.f14 5)) (i := 160) (e := (.build 53 #[(0, .const (.string ⟨#[84, 105, 109, 101, 115, 116, 97, 109, 112, 71, 114, 101, 97, 116, 101, 114, 84, 104, 97, 110, 69, 113, 117, 97, 108, 115]⟩)), (1, .tmp 169), (2, .tmp 171)], some 172, none)) (by kernel_rfl)
  have h3' : o.guard = none := h3
  have h2' : o.dst = some 172 := h2
  clear h2 h3
  refine wpOp_val (w' := x) ho h3' (v := val n 172) ?_ (by rw [h2']; exact hJ.quiet 160 172 (by decide) (by decide) (by decide) (by decide) (fun h => absurd h (by decide)))
  rw [vl172]
  exact sh_b2 h1 ((hJ.at hr 169 ⟨by decide, by decide⟩ (by kernel_rfl)).trans (vl169 n)) ((hJ.at hr 171 ⟨by decide, by decide⟩ (by kernel_rfl)).trans (vl171 n))
set_option maxRecDepth 100000 in
theorem opS161 {n : Nat} {x0 x : World} {listed : Array Bool} {a : Act} {Q : Exit → Act → World → Prop} (_X : X0 n x0) (hJ : OJ n x0 listed a x) (_hr : 161 ∈ Region.ready .any (opsOf Tryz.f14 5) listed) : wpOp Tryz.prog (opsOf Tryz.f14 5) Q 161 (OJ n x0 (listed.setIfInBounds 161 true)) a x := by
  obtain ⟨o, ho, h1, h2, h3⟩ := op_at (ops := (opsOf Tryz.f14 5)) (i := 161) (e := (.fieldAddr 74 (.tmp 4) 0, some 173, none)) (by kernel_rfl)
  have h3' : o.guard = none := h3
  have h2' : o.dst = some 173 := h2
  clear h2 h3
  refine wpOp_val (w' := x) ho h3' (v := val n 173) ?_ (by rw [h2']; exact hJ.quiet 161 173 (by decide) (by decide) (by decide) (by decide) (fun h => absurd h (by decide)))
  rw [vl173]
  exact sh_fa h1 ((hJ.kn 4 (.inl ⟨by decide, by decide⟩)).trans (by kernel_rfl))
set_option maxRecDepth 100000 in
theorem opS162 {n : Nat} {x0 x : World} {listed : Array Bool} {a : Act} {Q : Exit → Act → World → Prop} (X : X0 n x0) (hJ : OJ n x0 listed a x) (hr : 162 ∈ Region.ready .any (opsOf Tryz.f14 5) listed) : wpOp Tryz.prog (opsOf Tryz.f14 5) Q 162 (OJ n x0 (listed.setIfInBounds 162 true)) a x := by
  obtain ⟨o, ho, h1, h2, h3⟩ := op_at (ops := (opsOf Tryz.f14 5)) (i := 162) (e := (.load 50 (.tmp 173), some 174, none)) (by kernel_rfl)
  have h3' : o.guard = none := h3
  have h2' : o.dst = some 174 := h2
  clear h2 h3
  refine wpOp_val (w' := x) ho h3' (v := val n 174) ?_ (by rw [h2']; exact hJ.quiet 162 174 (by decide) (by decide) (by decide) (by decide) (fun h => absurd h (by decide)))
  rw [vl174]
  exact sh_ld1 h1 ((hJ.at hr 173 ⟨by decide, by decide⟩ (by kernel_rfl)).trans (vl173 n)) (hJ.cell X.d0)
set_option maxRecDepth 100000 in
theorem opS163 {n : Nat} {x0 x : World} {listed : Array Bool} {a : Act} {Q : Exit → Act → World → Prop} (X : X0 n x0) (hJ : OJ n x0 listed a x) (_hr : 163 ∈ Region.ready .any (opsOf Tryz.f14 5) listed) : wpOp Tryz.prog (opsOf Tryz.f14 5) Q 163 (OJ n x0 (listed.setIfInBounds 163 true)) a x := by
  obtain ⟨o, ho, h1, h2, h3⟩ := op_at (ops := (opsOf Tryz.f14 5)) (i := 163) (e := (.load 74 (.tmp 4), some 175, none)) (by kernel_rfl)
  have h3' : o.guard = none := h3
  have h2' : o.dst = some 175 := h2
  clear h2 h3
  refine wpOp_val (w' := x) ho h3' (v := val n 175) ?_ (by rw [h2']; exact hJ.quiet 163 175 (by decide) (by decide) (by decide) (by decide) (fun h => absurd h (by decide)))
  rw [vl175]
  exact sh_ld2 h1 ((hJ.kn 4 (.inl ⟨by decide, by decide⟩)).trans (by kernel_rfl)) (hJ.cell X.d0) (hJ.cell X.d1)
set_option maxRecDepth 100000 in
theorem opS164 {n : Nat} {x0 x : World} {listed : Array Bool} {a : Act} {Q : Exit → Act → World → Prop} (_X : X0 n x0) (hJ : OJ n x0 listed a x) (hr : 164 ∈ Region.ready .any (opsOf Tryz.f14 5) listed) : wpOp Tryz.prog (opsOf Tryz.f14 5) Q 164 (OJ n x0 (listed.setIfInBounds 164 true)) a x := by
  obtain ⟨o, ho, h1, h2, h3⟩ := op_at (ops := (opsOf Tryz.f14 5)) (i := 164) (e := (.makeFunc (.func 32) #[.tmp 175] #[], some 176, none)) (by kernel_rfl)
  have h3' : o.guard = none := h3
  have h2' : o.dst = some 176 := h2
  clear h2 h3
  refine wpOp_val (w' := x) ho h3' (v := val n 176) ?_ (by rw [h2']; exact hJ.quiet 164 176 (by decide) (by decide) (by decide) (by decide) (fun h => absurd h (by decide)))
  rw [vl176]
  exact sh_mf h1 ((hJ.at hr 175 ⟨by decide, by decide⟩ (by kernel_rfl)).trans (vl175 n))
set_option maxRecDepth 100000 in
theorem opS165 {n : Nat} {x0 x : World} {listed : Array Bool} {a : Act} {Q : Exit → Act → World → Prop} (_X : X0 n x0) (hJ : OJ n x0 listed a x) (hr : 165 ∈ Region.ready .any (opsOf Tryz.f14 5) listed) : wpOp Tryz.prog (opsOf Tryz.f14 5) Q 165 (OJ n x0 (listed.setIfInBounds 165 true)) a x := by
  obtain ⟨o, ho, h1, h2, h3⟩ := op_at (ops := (opsOf Tryz.f14 5)) (i := 165) (e := (.build 53 #[(0, .const (.string ⟨#[84, 105, 109, 101, 115, 116, 97, 109, 112, 71, 114, 101, 97, 116, 101, 114, 84, 104, 97, 110, 69, 113, 117, 97, 108, 115, 80, 97, 116, 104]⟩)), (1, .tmp 174), (2, .tmp 176), (3, .const (.bool true))], some 177, none)) (by kernel_rfl)
  have h3' : o.guard = none := h3
  have h2' : o.dst = some 177 := h2
  clear h2 h3
  refine wpOp_val (w' := x) ho h3' (v := val n 177) ?_ (by rw [h2']; exact hJ.quiet 165 177 (by decide) (by decide) (by decide) (by decide) (fun h => absurd h (by decide)))
  rw [vl177]
  exact sh_b3 h1 ((hJ.at hr 174 ⟨by decide, by decide⟩ (by kernel_rfl)).trans (vl174 n)) ((hJ.at hr 176 ⟨by decide, by decide⟩ (by kernel_rfl)).trans (vl176 n))
set_option maxRecDepth 100000 in
theorem opS167 {n : Nat} {x0 x : World} {listed : Array Bool} {a : Act} {Q : Exit → Act → World → Prop} (_X : X0 n x0) (hJ : OJ n x0 listed a x) (hr : 167 ∈ Region.ready .any (opsOf Tryz.f14 5) listed) : wpOp Tryz.prog (opsOf Tryz.f14 5) Q 167 (OJ n x0 (listed.setIfInBounds 167 true)) a x := by
  obtain ⟨o, ho, h1, h2, h3⟩ := op_at (ops := (opsOf Tryz.f14 5)) (i := 167) (e := (.build 53 #[(0, .const (.string ⟨#[73, 115, 78, 117, 108, 108]⟩)), (1, .tmp 178)], some 179, none)) (by kernel_rfl)
  have h3' : o.guard = none := h3
  have h2' : o.dst = some 179 := h2
  clear h2 h3
  refine wpOp_val (w' := x) ho h3' (v := val n 179) ?_ (by rw [h2']; exact hJ.quiet 167 179 (by decide) (by decide) (by decide) (by decide) (fun _ => ready_on hr 166 (by kernel_rfl)))
  rw [vl179]
  exact sh_b1 h1 ((hJ.at hr 178 ⟨by decide, by decide⟩ (by kernel_rfl)).trans (vl178 n))
set_option maxRecDepth 100000 in
theorem opS168 {n : Nat} {x0 x : World} {listed : Array Bool} {a : Act} {Q : Exit → Act → World → Prop} (_X : X0 n x0) (hJ : OJ n x0 listed a x) (_hr : 168 ∈ Region.ready .any (opsOf Tryz.f14 5) listed) : wpOp Tryz.prog (opsOf Tryz.f14 5) Q 168 (OJ n x0 (listed.setIfInBounds 168 true)) a x := by
  obtain ⟨o, ho, h1, h2, h3⟩ := op_at (ops := (opsOf Tryz.f14 5)) (i := 168) (e := (.build 53 #[(0, .const (.string ⟨#[73, 115, 80, 114, 101, 115, 101, 110, 116]⟩))], some 180, none)) (by kernel_rfl)
  have h3' : o.guard = none := h3
  have h2' : o.dst = some 180 := h2
  clear h2 h3
  refine wpOp_val (w' := x) ho h3' (v := val n 180) ?_ (by rw [h2']; exact hJ.quiet 168 180 (by decide) (by decide) (by decide) (by decide) (fun h => absurd h (by decide)))
  rw [vl180]
  exact sh_b0 h1 
set_option maxRecDepth 100000 in
theorem opS169 {n : Nat} {x0 x : World} {listed : Array Bool} {a : Act} {Q : Exit → Act → World → Prop} (_X : X0 n x0) (hJ : OJ n x0 listed a x) (_hr : 169 ∈ Region.ready .any (opsOf Tryz.f14 5) listed) : wpOp Tryz.prog (opsOf Tryz.f14 5) Q 169 (OJ n x0 (listed.setIfInBounds 169 true)) a x := by
  obtain ⟨o, ho, h1, h2, h3⟩ := op_at (ops := (opsOf Tryz.f14 5)) (i := 169) (e := (.fieldAddr 74 (.tmp 2) 0, some 181, none)) (by kernel_rfl)
  have h3' : o.guard = none := h3
  have h2' : o.dst = some 181 := h2
  clear h2 h3
  refine wpOp_val (w' := x) ho h3' (v := val n 181) ?_ (by rw [h2']; exact hJ.quiet 169 181 (by decide) (by decide) (by decide) (by decide) (fun h => absurd h (by decide)))
  rw [vl181]
  exact sh_fa h1 ((hJ.kn 2 (.inl ⟨by decide, by decide⟩)).trans (by kernel_rfl))
set_option maxRecDepth 100000 in
theorem opS170 {n : Nat} {x0 x : World} {listed : Array Bool} {a : Act} {Q : Exit → Act → World → Prop} (X : X0 n x0) (hJ : OJ n x0 listed a x) (hr : 170 ∈ Region.ready .any (opsOf Tryz.f14 5) listed) : wpOp Tryz.prog (opsOf Tryz.f14 5) Q 170 (OJ n x0 (listed.setIfInBounds 170 true)) a x := by
  obtain ⟨o, ho, h1, h2, h3⟩ := op_at (ops := (opsOf Tryz.f14 5)) (i := 170) (e := (.load 50 (.tmp 181), some 182, none)) (by kernel_rfl)
  have h3' : o.guard = none := h3
  have h2' : o.dst = some 182 := h2
  clear h2 h3
  refine wpOp_val (w' := x) ho h3' (v := val n 182) ?_ (by rw [h2']; exact hJ.quiet 170 182 (by decide) (by decide) (by decide) (by decide) (fun h => absurd h (by decide)))
  rw [vl182]
  exact sh_ld1 h1 ((hJ.at hr 181 ⟨by decide, by decide⟩ (by kernel_rfl)).trans (vl181 n)) (hJ.cell X.b0)
set_option maxRecDepth 100000 in
theorem opS171 {n : Nat} {x0 x : World} {listed : Array Bool} {a : Act} {Q : Exit → Act → World → Prop} (_X : X0 n x0) (hJ : OJ n x0 listed a x) (hr : 171 ∈ Region.ready .any (opsOf Tryz.f14 5) listed) : wpOp Tryz.prog (opsOf Tryz.f14 5) Q 171 (OJ n x0 (listed.setIfInBounds 171 true)) a x := by
  obtain ⟨o, ho, h1, h2, h3⟩ := op_at (ops := (opsOf Tryz.f14 5)) (i := 171) (e := (.build 53 #[(0, .const (.string ⟨#[73, 115, 78, 117, 109, 101, 114, 105, 99]⟩)), (1, .tmp 182)], some 183, none)) (by kernel_rfl)
  have h3' : o.guard = none := h3
  have h2' : o.dst = some 183 := h2
  clear h2 h3
  refine wpOp_val (w' := x) ho h3' (v := val n 183) ?_ (by rw [h2']; exact hJ.quiet 171 183 (by decide) (by decide) (by decide) (by decide) (fun h => absurd h (by decide)))
  rw [vl183]
  exact sh_b1 h1 ((hJ.at hr 182 ⟨by decide, by decide⟩ (by kernel_rfl)).trans (vl182 n))
set_option maxRecDepth 100000 in
theorem opS172 {n : Nat} {x0 x : World} {listed : Array Bool} {a : Act} {Q : Exit → Act → World → Prop} (_X : X0 n x0) (hJ : OJ n x0 listed a x) (_hr : 172 ∈ Region.ready .any (opsOf Tryz.f14 5) listed) : wpOp Tryz.prog (opsOf Tryz.f14 5) Q 172 (OJ n x0 (listed.setIfInBounds 172 true)) a x := by
  obtain ⟨o, ho, h1, h2, h3⟩ := op_at (ops := (opsOf Tryz.f14 5)) (i := 172) (e := (.fieldAddr 74 (.tmp 1) 0, some 184, none)) (by kernel_rfl)
  have h3' : o.guard = none := h3
  have h2' : o.dst = some 184 := h2
  clear h2 h3
  refine wpOp_val (w' := x) ho h3' (v := val n 184) ?_ (by rw [h2']; exact hJ.quiet 172 184 (by decide) (by decide) (by decide) (by decide) (fun h => absurd h (by decide)))
  rw [vl184]
  exact sh_fa h1 ((hJ.kn 1 (.inl ⟨by decide, by decide⟩)).trans (by kernel_rfl))
set_option maxRecDepth 100000 in
theorem opS173 {n : Nat} {x0 x : World} {listed : Array Bool} {a : Act} {Q : Exit → Act → World → Prop} (X : X0 n x0) (hJ : OJ n x0 listed a x) (hr : 173 ∈ Region.ready .any (opsOf Tryz.f14 5) listed) : wpOp Tryz.prog (opsOf Tryz.f14 5) Q 173 (OJ n x0 (listed.setIfInBounds 173 true)) a x := by
  obtain ⟨o, ho, h1, h2, h3⟩ := op_at (ops := (opsOf Tryz.f14 5)) (i := 173) (e := (.load 50 (.tmp 184), some 185, none)) (by kernel_rfl)
  have h3' : o.guard = none := h3
  have h2' : o.dst = some 185 := h2
  clear h2 h3
  refine wpOp_val (w' := x) ho h3' (v := val n 185) ?_ (by rw [h2']; exact hJ.quiet 173 185 (by decide) (by decide) (by decide) (by decide) (fun h => absurd h (by decide)))
  rw [vl185]
  exact sh_ld1 h1 ((hJ.at hr 184 ⟨by decide, by decide⟩ (by kernel_rfl)).trans (vl184 n)) (hJ.cell X.a0)
set_option maxRecDepth 100000 in
theorem opS174 {n : Nat} {x0 x : World} {listed : Array Bool} {a : Act} {Q : Exit → Act → World → Prop} (_X : X0 n x0) (hJ : OJ n x0 listed a x) (hr : 174 ∈ Region.ready .any (opsOf Tryz.f14 5) listed) : wpOp Tryz.prog (opsOf Tryz.f14 5) Q 174 (OJ n x0 (listed.setIfInBounds 174 true)) a x := by
  obtain ⟨o, ho, h1, h2, h3⟩ := op_at (ops := (opsOf Tryz.f14 5)) (i := 174) (e := (.build 53 #[(0, .const (.string ⟨#[73, 115, 83, 116, 114, 105, 110, 103]⟩)), (1, .tmp 185)], some 186, none)) (by kernel_rfl)
  have h3' : o.guard = none := h3
  have h2' : o.dst = some 186 := h2
  clear h2 h3
  refine wpOp_val (w' := x) ho h3' (v := val n 186) ?_ (by rw [h2']; exact hJ.quiet 174 186 (by decide) (by decide) (by decide) (by decide) (fun h => absurd h (by decide)))
  rw [vl186]
  exact sh_b1 h1 ((hJ.at hr 185 ⟨by decide, by decide⟩ (by kernel_rfl)).trans (vl185 n))
set_option maxRecDepth 100000 in
theorem opS175 {n : Nat} {x0 x : World} {listed : Array Bool} {a : Act} {Q : Exit → Act → World → Prop} (_X : X0 n x0) (hJ : OJ n x0 listed a x) (_hr : 175 ∈ Region.ready .any (opsOf Tryz.f14 5) listed) : wpOp Tryz.prog (opsOf Tryz.f14 5) Q 175 (OJ n x0 (listed.setIfInBounds 175 true)) a x := by
  obtain ⟨o, ho, h1, h2, h3⟩ := op_at (ops := (opsOf Tryz.f14 5)) (i := 175) (e := (.fieldAddr 74 (.tmp 3) 0, some 187, none)) (by kernel_rfl)
  have h3' : o.guard = none := h3
  have h2' : o.dst = some 187 := h2
  clear h2 h3
  refine wpOp_val (w' := x) ho h3' (v := val n 187) ?_ (by rw [h2']; exact hJ.quiet 175 187 (by decide) (by decide) (by decide) (by decide) (fun h => absurd h (by decide)))
  rw [vl187]
  exact sh_fa h1 ((hJ.kn 3 (.inl ⟨by decide, by decide⟩)).trans (by kernel_rfl))
set_option maxRecDepth 100000 in
theorem opS176 {n : Nat} {x0 x : World} {listed : Array Bool} {a : Act} {Q : Exit → Act → World → Prop} (X : X0 n x0) (hJ : OJ n x0 listed a x) (hr : 176 ∈ Region.ready .any (opsOf Tryz.f14 5) listed) : wpOp Tryz.prog (opsOf Tryz.f14 5) Q 176 (OJ n x0 (listed.setIfInBounds 176 true)) a x := by
  obtain ⟨o, ho, h1, h2, h3⟩ := op_at (ops := (opsOf Tryz.f14 5)) (i := 176) (e := (.load 50 (.tmp 187), some 188, none)) (by kernel_rfl)
  have h3' : o.guard = none := h3
  have h2' : o.dst = some 188 := h2
  clear h2 h3
  refine wpOp_val (w' := x) ho h3' (v := val n 188) ?_ (by rw [h2']; exact hJ.quiet 176 188 (by decide) (by decide) (by decide) (by decide) (fun h => absurd h (by decide)))
  rw [vl188]
  exact sh_ld1 h1 ((hJ.at hr 187 ⟨by decide, by decide⟩ (by kernel_rfl)).trans (vl187 n)) (hJ.cell X.c0)
set_option maxRecDepth 100000 in
theorem opS177 {n : Nat} {x0 x : World} {listed : Array Bool} {a : Act} {Q : Exit → Act → World → Prop} (_X : X0 n x0) (hJ : OJ n x0 listed a x) (hr : 177 ∈ Region.ready .any (opsOf Tryz.f14 5) listed) : wpOp Tryz.prog (opsOf Tryz.f14 5) Q 177 (OJ n x0 (listed.setIfInBounds 177 true)) a x := by
  obtain ⟨o, ho, h1, h2, h3⟩ := op_at (ops := (opsOf Tryz.f14 5)) (i := 177) (e := (.build 53 #[(0, .const (.string ⟨#[73, 115, 66, 111, 111, 108, 101, 97, 110]⟩)), (1, .tmp 188)], some 189, none)) (by kernel_rfl)
  have h3' : o.guard = none := h3
  have h2' : o.dst = some 189 := h2
  clear h2 h3
  refine wpOp_val (w' := x) ho h3' (v := val n 189) ?_ (by rw [h2']; exact hJ.quiet 177 189 (by decide) (by decide) (by decide) (by decide) (fun h => absurd h (by decide)))
  rw [vl189]
  exact sh_b1 h1 ((hJ.at hr 188 ⟨by decide, by decide⟩ (by kernel_rfl)).trans (vl188 n))
set_option maxRecDepth 100000 in
theorem opS178 {n : Nat} {x0 x : World} {listed : Array Bool} {a : Act} {Q : Exit → Act → World → Prop} (_X : X0 n x0) (hJ : OJ n x0 listed a x) (_hr : 178 ∈ Region.ready .any (opsOf Tryz.f14 5) listed) : wpOp Tryz.prog (opsOf Tryz.f14 5) Q 178 (OJ n x0 (listed.setIfInBounds 178 true)) a x := by
  obtain ⟨o, ho, h1, h2, h3⟩ := op_at (ops := (opsOf Tryz.f14 5)) (i := 178) (e := (.fieldAddr 74 (.tmp 4) 0, some 190, none)) (by kernel_rfl)
  have h3' : o.guard = none := h3
  have h2' : o.dst = some 190 := h2
  clear h2 h3
  refine wpOp_val (w' := x) ho h3' (v := val n 190) ?_ (by rw [h2']; exact hJ.quiet 178 190 (by decide) (by decide) (by decide) (by decide) (fun h => absurd h (by decide)))
  rw [vl190]
  exact sh_fa h1 ((hJ.kn 4 (.inl ⟨by decide, by decide⟩)).trans (by kernel_rfl))
set_option maxRecDepth 100000 in
theorem opS179 {n : Nat} {x0 x : World} {listed : Array Bool} {a : Act} {Q : Exit → Act → World → Prop} (X : X0 n x0) (hJ : OJ n x0 listed a x) (hr : 179 ∈ Region.ready .any (opsOf Tryz.f14 5) listed) : wpOp Tryz.prog (opsOf Tryz.f14 5) Q 179 (OJ n x0 (listed.setIfInBounds 179 true)) a x := by
  obtain ⟨o, ho, h1, h2, h3⟩ := op_at (ops := (opsOf Tryz.f14 5)) (i := 179) (e := (.load 50 (.tmp 190), some 191, none)) (by kernel_rfl)
  have h3' : o.guard = none := h3
  have h2' : o.dst = some 191 := h2
  clear h2 h3
  refine wpOp_val (w' := x) ho h3' (v := val n 191) ?_ (by rw [h2']; exact hJ.quiet 179 191 (by decide) (by decide) (by decide) (by decide) (fun h => absurd h (by decide)))
  rw [vl191]
  exact sh_ld1 h1 ((hJ.at hr 190 ⟨by decide, by decide⟩ (by kernel_rfl)).trans (vl190 n)) (hJ.cell X.d0)
set_option maxRecDepth 100000 in
theorem opS180 {n : Nat} {x0 x : World} {listed : Array Bool} {a : Act} {Q : Exit → Act → World → Prop} (_X : X0 n x0) (hJ : OJ n x0 listed a x) (hr : 180 ∈ Region.ready .any (opsOf Tryz.f14 5) listed) : wpOp Tryz.prog (opsOf Tryz.f14 5) Q 180 (OJ n x0 (listed.setIfInBounds 180 true)) a x := by
  obtain ⟨o, ho, h1, h2, h3⟩ := op_at (ops := (opsOf Tryz.f14 5)) (i := 180) (e := (.build 53 #[(0, .const (.string ⟨#[73, 115, 84, 105, 109, 101, 115, 116, 97, 109, 112]⟩)), (1, .tmp 191)], some 192, none)) (by kernel_rfl)
  have h3' : o.guard = none := h3
  have h2' : o.dst = some 192 := h2
  clear h2 h3
  refine wpOp_val (w' := x) ho h3' (v := val n 192) ?_ (by rw [h2']; exact hJ.quiet 180 192 (by decide) (by decide) (by decide) (by decide) (fun h => absurd h (by decide)))
  rw [vl192]
  exact sh_b1 h1 ((hJ.at hr 191 ⟨by decide, by decide⟩ (by kernel_rfl)).trans (vl191 n))
end Go.Proofs.YthpnclhfooileaaGreatDoor.ru
