/-
  Cases of the switch of the generator's stmts. Conditions: the maker with rows of its own; what bodies and loops make. Cases of the switch of the generator's stmts. Conditions: the maker with rows of its own; what bodies and loops make. Cases of the switch of the generator's stmts. Conditions: the maker with rows of its own; what bodies and loops make.
-/
import Derived.Test.YtchibamdkaejdaaDoorZA
import Derived.Test.YtchibamdkaejdaaDoorZCa
import Derived.Test.YtchibamdkaejdaaDoorZAs
namespace Go.Proofs.YtchibamdkaejdaaDoor
open Go.RowKit
variable {lo : Nat}

set_option linter.unusedSimpArgs false in
set_option linter.unusedVariables false in
set_option maxHeartbeats 0 in
set_option maxRecDepth 100000 in
theorem sw_as10 (B : Nat) (nest d : Nat) (w w4 : World) (most k l c : Nat) (M T : Nat) (f funcs count0 left0 count1 left1 left4 r : Int) (P S0 Q0 R0 S1 Q1 R1 Ar : Option Addr) (pl pc sl0 sc0 ql0 qc0 rl0 rc0 sl1 sc1 ql1 qc1 rl1 rc1 : Nat) (A : Option Addr) (len cap : Nat) (ns : List Nat) (hnest : nest ≤ 4) (HIH : Hid (nest < 4 → BodyAt (nest + 1) d)) (HIL : Hid (nest < 4 → LoopAt nest d)) (H0 : Hid (M < w.heap.size)) (hmost : most ≤ 10) (hlt : k < most) (hl : l ≤ 2 * k) (hz4 : w.heap.size ≤ w4.heap.size) (hr0 : 0 ≤ r) (hr1 : r < 16) (hleft : left1 ≤ left0) (hcl : count1 + left1 ≤ count0 + left0) (hsum : (ns.sum : Int) ≤ 100 * (left0 - left1)) (hleft4 : left1 = left4 + 1) (n1 : 0 ≤ count1) (n2 : 0 ≤ left4) (n3 : count1 + left4 ≤ 21) (HKF : Hid (Kin ⟨M, T, f, funcs, count0, left0, P, S0, Q0, R0, pl, pc, sl0, sc0, ql0, qc0, rl0, rc0, A, len, cap⟩ ⟨M, T, f, funcs, count1, left4, P, S1, Q1, R1, pl, pc, sl1, sc1, ql1, qc1, rl1, rc1, A, len, cap⟩)) (HM4 : Hid (Mks lo B ⟨M, T, f, funcs, count1, left4, P, S1, Q1, R1, pl, pc, sl1, sc1, ql1, qc1, rl1, rc1, A, len, cap⟩ w [] w4)) (HS4 : Hid (StsAt w4 w.heap.size (d + 1) Ar l c ns)) {x3 x4 x5 x6 x10 x11 x12 x13 x14 x15 x16 x17 x18 x19 x20 x21 x22 x23 x24 x25 x26 x27 x28 x29 x30 x31 x32 x33 x34 x35 x36 x37 x38 x39 x40 x41 x42 x43 x44 x45 x46 x47 x48 x49 x50 x51 x52 x53 x54 x55 x56 x57 x58 x59 x60 x61 x62 x63 x64 x65 x66 x67 x68 x69 x70 x71 x72 x73 x74 x75 x76 x77 x78 x79 x80 x81 x82 x83 x84 x85 x86 x87 x88 x89 x90 x91 x92 x93 x94 x95 x96 x97 x98 x99 x100 x101 x102 x103 x104 x105 x106 x107 x108 x109 x110 x111 x112 x113 x114 x115 x116 x117 x118 x119 x120 x121 x122 x123 x124 x125 x126 x127 x128 x129 x130 x131 x132 x133 x134 x135 x136 x137 x138 x139 x140 x141 x142 x143 x144 x145 x146 x147 x148 x149 x150 x151 x152 x153 x154 x155 x156 x157 x158 x159 x160 x161 x162 x163 x164 x165 x166 x167 x168 x169 x170 x171 x172 x173 x174 x175 x176 x177 x178 x179 x180 x181 x182 x183 x184 x185 x186 x187 x188 x189 x190 x191 x192 x193 x194 x195 x196 x197 x198 x199 x200 x201 x202 x203 x204 x205 x206 x207 x208 x209 x210 x211 x212 x213 x214 x215 x216 x217 x218 x219 x220 x221 x222 x223 x224 x225 x226 x227 x228 x229 x230 x231 x232 x233 x234 x235 x236 x237 x238 x239 x240 x241 x242 x243 x244 x245 x246 x247 x248 x249 x250 x251 x252 x253 x254 x255 x256 x257 x258 : Value} (R : Exit → Act → World → Prop) (hR : ∀ a' w', SwEnd lo B w M nest most k l d left0 count0 ⟨M, T, f, funcs, count0, left0, P, S0, Q0, R0, pl, pc, sl0, sc0, ql0, qc0, rl0, rc0, A, len, cap⟩ x3 x4 x5 x6 x258 a' w' → R .normal a' w') (hcase : (¬ r < 3 ∧ r ≠ 3 ∧ r ≠ 4 ∧ r ≠ 5 ∧ r ≠ 6 ∧ r ≠ 7 ∧ r ≠ 8 ∧ r ≠ 9)) : Code.wp Tryd.prog swBlock R ⟨#[.pointer (some ⟨M, 0, none⟩), .int .i64 nest, .int .i64 most, x3, x4, x5, x6, .slice Ar l c, .int .i64 k, .int .i64 r, x10, x11, x12, x13, x14, x15, x16, x17, x18, x19, x20, x21, x22, x23, x24, x25, x26, x27, x28, x29, x30, x31, x32, x33, x34, x35, x36, x37, x38, x39, x40, x41, x42, x43, x44, x45, x46, x47, x48, x49, x50, x51, x52, x53, x54, x55, x56, x57, x58, x59, x60, x61, x62, x63, x64, x65, x66, x67, x68, x69, x70, x71, x72, x73, x74, x75, x76, x77, x78, x79, x80, x81, x82, x83, x84, x85, x86, x87, x88, x89, x90, x91, x92, x93, x94, x95, x96, x97, x98, x99, x100, x101, x102, x103, x104, x105, x106, x107, x108, x109, x110, x111, x112, x113, x114, x115, x116, x117, x118, x119, x120, x121, x122, x123, x124, x125, x126, x127, x128, x129, x130, x131, x132, x133, x134, x135, x136, x137, x138, x139, x140, x141, x142, x143, x144, x145, x146, x147, x148, x149, x150, x151, x152, x153, x154, x155, x156, x157, x158, x159, x160, x161, x162, x163, x164, x165, x166, x167, x168, x169, x170, x171, x172, x173, x174, x175, x176, x177, x178, x179, x180, x181, x182, x183, x184, x185, x186, x187, x188, x189, x190, x191, x192, x193, x194, x195, x196, x197, x198, x199, x200, x201, x202, x203, x204, x205, x206, x207, x208, x209, x210, x211, x212, x213, x214, x215, x216, x217, x218, x219, x220, x221, x222, x223, x224, x225, x226, x227, x228, x229, x230, x231, x232, x233, x234, x235, x236, x237, x238, x239, x240, x241, x242, x243, x244, x245, x246, x247, x248, x249, x250, x251, x252, x253, x254, x255, x256, x257, x258], []⟩ w4 := by
 have HR := Lib.hid hR
 clear hR
 have HX4 := Lib.hid (KeptX.id w4)
 have hww := hz4
 have hz4 : w4.heap.size ≤ w4.heap.size := Nat.le_refl _
 have hk : k ≤ most := by omega
 have e0 := HM4.out.cx.maker.cell 0 (.pointer (some ⟨T, 0, none⟩)) rfl
 have e7 := HM4.out.cx.maker.cell 7 (.int .i64 count1) rfl
 dsimp only at e0 e7
 obtain ⟨_, _, _, n4, n5, n6, n7, n8, n9⟩ := HM4.out.cx.num
 dsimp only at n4 n5 n6 n7 n8 n9
 obtain ⟨hr, hn3, hn4, hn5, hn6, hn7, hn8, hn9⟩ := hcase
 simp only [swBlock, cFst, cSnd, cIn, Tryd.f26, Option.getD]
 go_wp2_with fail
 refine (assign_any B ⟨M, T, f, funcs, count1, left4, P, S1, Q1, R1, pl, pc, sl1, sc1, ql1, qc1, rl1, rc1, A, len, cap⟩ w4 HM4.out.cx).mono ?_
 rintro e w11 ⟨kd, fn, A1a, l1a, c1a, A2a, l2a, c2a, na, nb, rfl, hkd, hfn, hra, hrb, hsm, hc, hw⟩
 have hkx := hw.keptX
 have HM11 := Lib.hid (HM4.out.turned hc hw)
 have HX11 := Lib.hid (HX4.out.trans' hkx)
 have hz11 := hw.size
 clear hkx
 have HEa := Lib.hid hra
 have HEb := Lib.hid hrb
 clear hra hrb hc hw
 unfold asCells
 obtain ⟨w12, hw12⟩ : ∃ W, Hid (w11.alloc (.cells (#[.int .i64 (kd : Int), .int .i64 0, .int .i64 0, .string ⟨#[]⟩, .string ⟨#[]⟩, .int .i64 0, .int .i64 0, .slice A1a l1a c1a, .string fn, .int .i64 0, .slice A2a l2a c2a, .slice none 0 0, .slice none 0 0]) 75) = W) := ⟨_, Lib.hid rfl⟩
 have hb : Below w11.heap.size w11 w12 := by rw [← hw12.out]; exact (Below.refl _ _).alloc (Nat.le_refl _) _
 have HY12 : Hid (w12.heap[w11.heap.size]? = some (.cells (asCells kd fn A1a l1a c1a A2a l2a c2a) 75 (0, 0))) := Lib.hid (by rw [← hw12.out]; exact Array.getElem?_push_size)
 have hkx := KeptX.below hb
 have HM12 := Lib.hid (HM11.out.below hb)
 have HX12 := Lib.hid (HX11.out.trans' hkx)
 have HEa12 := Lib.hid (HEa.out.keep hkx.e)
 have HEb12 := Lib.hid (HEb.out.keep hkx.e)
 have hz12 := hb.size
 clear hkx
 clear hb
 have HSF := Lib.hid (HS4.out.kept HX12.out)
 have hST : StIn w12 (fun b => w.heap.size ≤ b ∧ some b ≠ blk Ar) (d + 1) (.agg (asCells kd fn A1a l1a c1a A2a l2a c2a)) (1 + na.sum + nb.sum) := stIn_plain hkd hfn HEa12.out HEb12.out rfl rfl _ d
 have HST := Lib.hid hST
 have hwf : w.heap.size ≤ w12.heap.size := HM12.out.went.size
 clear hST
 go_wp2_with (at_builtin; rw [hw12.out]; refine wpList_plain rfl (fun K hK => ?_); refine wp_append_one _ _ rfl w.heap.size (w11.heap.size) (d + 1) l c 1 (1 + na.sum + nb.sum) Ar ns (asCells kd fn A1a l1a c1a A2a l2a c2a) rfl HSF.out rfl HY12.out rfl (asCells_one _ _ _ _ _ _ _ _) HST.out (by omega) hwf ?_; intro A3 c3 w13 hgrow hplace hst7; have HMF := Lib.hid (HM12.out.rows HSF.out (Nat.le_refl _) (fun p hp => absurd hp (by simp)) hgrow); have HSL := Lib.hid hst7; clear hgrow hplace hst7; refine hK _ _ ?_)
 refine HR.out _ _ ?_
 exact ⟨_, _, _, _, _, _, _, _, _, _, _, _, _, _, _, _, _, _, _, _, _, _, _, _, _, _, _, _, _, _, _, _, _, _, _, _, _, _, _, _, _, _, _, _, _, _, _, _, _, _, _, _, _, _, _, _, _, _, _, _, _, _, _, _, _, _, _, _, _, _, _, _, _, _, _, _, _, _, _, _, _, _, _, _, _, _, _, _, _, _, _, _, _, _, _, _, _, _, _, _, _, _, _, _, _, _, _, _, _, _, _, _, _, _, _, _, _, _, _, _, _, _, _, _, _, _, _, _, _, _, _, _, _, _, _, _, _, _, _, _, _, _, _, _, _, _, _, _, _, _, _, _, _, _, _, _, _, _, _, _, _, _, _, _, _, _, _, _, _, _, _, _, _, _, _, _, _, _, _, _, _, _, _, _, _, _, _, _, _, _, _, _, _, _, _, _, _, _, _, _, _, _, _, _, _, _, _, _, _, _, _, _, _, _, _, _, _, _, _, _, _, _, _, _, _, _, _, _, _, _, _, _, _, _, _, _, _, _, _, _, _, _, _, _, _, _, _, _, _, l + 1, c3, A3, ns ++ [1 + na.sum + nb.sum], _, rfl, by omega, HSL.out, HKF.out, by dsimp only; omega, by dsimp only; omega, by rw [List.sum_append]; simp only [List.sum_cons, List.sum_nil]; (try dsimp only); omega, HMF.out⟩
set_option linter.unusedSimpArgs false in
set_option linter.unusedVariables false in
set_option maxHeartbeats 0 in
set_option maxRecDepth 100000 in
theorem sw_as0 (B : Nat) (nest d : Nat) (w w4 : World) (most k l c : Nat) (M T : Nat) (f funcs count0 left0 count1 left1 left4 r : Int) (P S0 Q0 R0 S1 Q1 R1 Ar : Option Addr) (pl pc sl0 sc0 ql0 qc0 rl0 rc0 sl1 sc1 ql1 qc1 rl1 rc1 : Nat) (A : Option Addr) (len cap : Nat) (ns : List Nat) (hnest : nest ≤ 4) (HIH : Hid (nest < 4 → BodyAt (nest + 1) d)) (HIL : Hid (nest < 4 → LoopAt nest d)) (H0 : Hid (M < w.heap.size)) (hmost : most ≤ 10) (hlt : k < most) (hl : l ≤ 2 * k) (hz4 : w.heap.size ≤ w4.heap.size) (hr0 : 0 ≤ r) (hr1 : r < 16) (hleft : left1 ≤ left0) (hcl : count1 + left1 ≤ count0 + left0) (hsum : (ns.sum : Int) ≤ 100 * (left0 - left1)) (hleft4 : left1 = left4 + 1) (n1 : 0 ≤ count1) (n2 : 0 ≤ left4) (n3 : count1 + left4 ≤ 21) (HKF : Hid (Kin ⟨M, T, f, funcs, count0, left0, P, S0, Q0, R0, pl, pc, sl0, sc0, ql0, qc0, rl0, rc0, A, len, cap⟩ ⟨M, T, f, funcs, count1, left4, P, S1, Q1, R1, pl, pc, sl1, sc1, ql1, qc1, rl1, rc1, A, len, cap⟩)) (HM4 : Hid (Mks lo B ⟨M, T, f, funcs, count1, left4, P, S1, Q1, R1, pl, pc, sl1, sc1, ql1, qc1, rl1, rc1, A, len, cap⟩ w [] w4)) (HS4 : Hid (StsAt w4 w.heap.size (d + 1) Ar l c ns)) {x3 x4 x5 x6 x10 x11 x12 x13 x14 x15 x16 x17 x18 x19 x20 x21 x22 x23 x24 x25 x26 x27 x28 x29 x30 x31 x32 x33 x34 x35 x36 x37 x38 x39 x40 x41 x42 x43 x44 x45 x46 x47 x48 x49 x50 x51 x52 x53 x54 x55 x56 x57 x58 x59 x60 x61 x62 x63 x64 x65 x66 x67 x68 x69 x70 x71 x72 x73 x74 x75 x76 x77 x78 x79 x80 x81 x82 x83 x84 x85 x86 x87 x88 x89 x90 x91 x92 x93 x94 x95 x96 x97 x98 x99 x100 x101 x102 x103 x104 x105 x106 x107 x108 x109 x110 x111 x112 x113 x114 x115 x116 x117 x118 x119 x120 x121 x122 x123 x124 x125 x126 x127 x128 x129 x130 x131 x132 x133 x134 x135 x136 x137 x138 x139 x140 x141 x142 x143 x144 x145 x146 x147 x148 x149 x150 x151 x152 x153 x154 x155 x156 x157 x158 x159 x160 x161 x162 x163 x164 x165 x166 x167 x168 x169 x170 x171 x172 x173 x174 x175 x176 x177 x178 x179 x180 x181 x182 x183 x184 x185 x186 x187 x188 x189 x190 x191 x192 x193 x194 x195 x196 x197 x198 x199 x200 x201 x202 x203 x204 x205 x206 x207 x208 x209 x210 x211 x212 x213 x214 x215 x216 x217 x218 x219 x220 x221 x222 x223 x224 x225 x226 x227 x228 x229 x230 x231 x232 x233 x234 x235 x236 x237 x238 x239 x240 x241 x242 x243 x244 x245 x246 x247 x248 x249 x250 x251 x252 x253 x254 x255 x256 x257 x258 : Value} (R : Exit → Act → World → Prop) (hR : ∀ a' w', SwEnd lo B w M nest most k l d left0 count0 ⟨M, T, f, funcs, count0, left0, P, S0, Q0, R0, pl, pc, sl0, sc0, ql0, qc0, rl0, rc0, A, len, cap⟩ x3 x4 x5 x6 x258 a' w' → R .normal a' w') (hcase : (r < 3 ∧ ¬ count1 < 14 ∧ r ≠ 3 ∧ r ≠ 4 ∧ r ≠ 5 ∧ r ≠ 6 ∧ r ≠ 7 ∧ r ≠ 8 ∧ r ≠ 9)) : Code.wp Tryd.prog swBlock R ⟨#[.pointer (some ⟨M, 0, none⟩), .int .i64 nest, .int .i64 most, x3, x4, x5, x6, .slice Ar l c, .int .i64 k, .int .i64 r, x10, x11, x12, x13, x14, x15, x16, x17, x18, x19, x20, x21, x22, x23, x24, x25, x26, x27, x28, x29, x30, x31, x32, x33, x34, x35, x36, x37, x38, x39, x40, x41, x42, x43, x44, x45, x46, x47, x48, x49, x50, x51, x52, x53, x54, x55, x56, x57, x58, x59, x60, x61, x62, x63, x64, x65, x66, x67, x68, x69, x70, x71, x72, x73, x74, x75, x76, x77, x78, x79, x80, x81, x82, x83, x84, x85, x86, x87, x88, x89, x90, x91, x92, x93, x94, x95, x96, x97, x98, x99, x100, x101, x102, x103, x104, x105, x106, x107, x108, x109, x110, x111, x112, x113, x114, x115, x116, x117, x118, x119, x120, x121, x122, x123, x124, x125, x126, x127, x128, x129, x130, x131, x132, x133, x134, x135, x136, x137, x138, x139, x140, x141, x142, x143, x144, x145, x146, x147, x148, x149, x150, x151, x152, x153, x154, x155, x156, x157, x158, x159, x160, x161, x162, x163, x164, x165, x166, x167, x168, x169, x170, x171, x172, x173, x174, x175, x176, x177, x178, x179, x180, x181, x182, x183, x184, x185, x186, x187, x188, x189, x190, x191, x192, x193, x194, x195, x196, x197, x198, x199, x200, x201, x202, x203, x204, x205, x206, x207, x208, x209, x210, x211, x212, x213, x214, x215, x216, x217, x218, x219, x220, x221, x222, x223, x224, x225, x226, x227, x228, x229, x230, x231, x232, x233, x234, x235, x236, x237, x238, x239, x240, x241, x242, x243, x244, x245, x246, x247, x248, x249, x250, x251, x252, x253, x254, x255, x256, x257, x258], []⟩ w4 := by
 have HR := Lib.hid hR
 clear hR
 have HX4 := Lib.hid (KeptX.id w4)
 have hww := hz4
 have hz4 : w4.heap.size ≤ w4.heap.size := Nat.le_refl _
 have hk : k ≤ most := by omega
 have e0 := HM4.out.cx.maker.cell 0 (.pointer (some ⟨T, 0, none⟩)) rfl
 have e7 := HM4.out.cx.maker.cell 7 (.int .i64 count1) rfl
 dsimp only at e0 e7
 obtain ⟨_, _, _, n4, n5, n6, n7, n8, n9⟩ := HM4.out.cx.num
 dsimp only at n4 n5 n6 n7 n8 n9
 obtain ⟨hr, hct, hn3, hn4, hn5, hn6, hn7, hn8, hn9⟩ := hcase
 simp only [swBlock, cFst, cSnd, cIn, Tryd.f26, Option.getD]
 go_wp2_with fail
 refine (assign_any B ⟨M, T, f, funcs, count1, left4, P, S1, Q1, R1, pl, pc, sl1, sc1, ql1, qc1, rl1, rc1, A, len, cap⟩ w4 HM4.out.cx).mono ?_
 rintro e w14 ⟨kd, fn, A1a, l1a, c1a, A2a, l2a, c2a, na, nb, rfl, hkd, hfn, hra, hrb, hsm, hc, hw⟩
 have hkx := hw.keptX
 have HM14 := Lib.hid (HM4.out.turned hc hw)
 have HX14 := Lib.hid (HX4.out.trans' hkx)
 have hz14 := hw.size
 clear hkx
 have HEa := Lib.hid hra
 have HEb := Lib.hid hrb
 clear hra hrb hc hw
 unfold asCells
 obtain ⟨w15, hw15⟩ : ∃ W, Hid (w14.alloc (.cells (#[.int .i64 (kd : Int), .int .i64 0, .int .i64 0, .string ⟨#[]⟩, .string ⟨#[]⟩, .int .i64 0, .int .i64 0, .slice A1a l1a c1a, .string fn, .int .i64 0, .slice A2a l2a c2a, .slice none 0 0, .slice none 0 0]) 75) = W) := ⟨_, Lib.hid rfl⟩
 have hb : Below w14.heap.size w14 w15 := by rw [← hw15.out]; exact (Below.refl _ _).alloc (Nat.le_refl _) _
 have HY15 : Hid (w15.heap[w14.heap.size]? = some (.cells (asCells kd fn A1a l1a c1a A2a l2a c2a) 75 (0, 0))) := Lib.hid (by rw [← hw15.out]; exact Array.getElem?_push_size)
 have hkx := KeptX.below hb
 have HM15 := Lib.hid (HM14.out.below hb)
 have HX15 := Lib.hid (HX14.out.trans' hkx)
 have HEa15 := Lib.hid (HEa.out.keep hkx.e)
 have HEb15 := Lib.hid (HEb.out.keep hkx.e)
 have hz15 := hb.size
 clear hkx
 clear hb
 have HSF := Lib.hid (HS4.out.kept HX15.out)
 have hST : StIn w15 (fun b => w.heap.size ≤ b ∧ some b ≠ blk Ar) (d + 1) (.agg (asCells kd fn A1a l1a c1a A2a l2a c2a)) (1 + na.sum + nb.sum) := stIn_plain hkd hfn HEa15.out HEb15.out rfl rfl _ d
 have HST := Lib.hid hST
 have hwf : w.heap.size ≤ w15.heap.size := HM15.out.went.size
 clear hST
 go_wp2_with (at_builtin; rw [hw15.out]; refine wpList_plain rfl (fun K hK => ?_); refine wp_append_one _ _ rfl w.heap.size (w14.heap.size) (d + 1) l c 1 (1 + na.sum + nb.sum) Ar ns (asCells kd fn A1a l1a c1a A2a l2a c2a) rfl HSF.out rfl HY15.out rfl (asCells_one _ _ _ _ _ _ _ _) HST.out (by omega) hwf ?_; intro A3 c3 w16 hgrow hplace hst7; have HMF := Lib.hid (HM15.out.rows HSF.out (Nat.le_refl _) (fun p hp => absurd hp (by simp)) hgrow); have HSL := Lib.hid hst7; clear hgrow hplace hst7; refine hK _ _ ?_)
 refine HR.out _ _ ?_
 exact ⟨_, _, _, _, _, _, _, _, _, _, _, _, _, _, _, _, _, _, _, _, _, _, _, _, _, _, _, _, _, _, _, _, _, _, _, _, _, _, _, _, _, _, _, _, _, _, _, _, _, _, _, _, _, _, _, _, _, _, _, _, _, _, _, _, _, _, _, _, _, _, _, _, _, _, _, _, _, _, _, _, _, _, _, _, _, _, _, _, _, _, _, _, _, _, _, _, _, _, _, _, _, _, _, _, _, _, _, _, _, _, _, _, _, _, _, _, _, _, _, _, _, _, _, _, _, _, _, _, _, _, _, _, _, _, _, _, _, _, _, _, _, _, _, _, _, _, _, _, _, _, _, _, _, _, _, _, _, _, _, _, _, _, _, _, _, _, _, _, _, _, _, _, _, _, _, _, _, _, _, _, _, _, _, _, _, _, _, _, _, _, _, _, _, _, _, _, _, _, _, _, _, _, _, _, _, _, _, _, _, _, _, _, _, _, _, _, _, _, _, _, _, _, _, _, _, _, _, _, _, _, _, _, _, _, _, _, _, _, _, _, _, _, _, _, _, _, _, _, _, l + 1, c3, A3, ns ++ [1 + na.sum + nb.sum], _, rfl, by omega, HSL.out, HKF.out, by dsimp only; omega, by dsimp only; omega, by rw [List.sum_append]; simp only [List.sum_cons, List.sum_nil]; (try dsimp only); omega, HMF.out⟩
set_option linter.unusedSimpArgs false in
set_option linter.unusedVariables false in
set_option maxHeartbeats 0 in
set_option maxRecDepth 100000 in
theorem sw_as3 (B : Nat) (nest d : Nat) (w w4 : World) (most k l c : Nat) (M T : Nat) (f funcs count0 left0 count1 left1 left4 r : Int) (P S0 Q0 R0 S1 Q1 R1 Ar : Option Addr) (pl pc sl0 sc0 ql0 qc0 rl0 rc0 sl1 sc1 ql1 qc1 rl1 rc1 : Nat) (A : Option Addr) (len cap : Nat) (ns : List Nat) (hnest : nest ≤ 4) (HIH : Hid (nest < 4 → BodyAt (nest + 1) d)) (HIL : Hid (nest < 4 → LoopAt nest d)) (H0 : Hid (M < w.heap.size)) (hmost : most ≤ 10) (hlt : k < most) (hl : l ≤ 2 * k) (hz4 : w.heap.size ≤ w4.heap.size) (hr0 : 0 ≤ r) (hr1 : r < 16) (hleft : left1 ≤ left0) (hcl : count1 + left1 ≤ count0 + left0) (hsum : (ns.sum : Int) ≤ 100 * (left0 - left1)) (hleft4 : left1 = left4 + 1) (n1 : 0 ≤ count1) (n2 : 0 ≤ left4) (n3 : count1 + left4 ≤ 21) (HKF : Hid (Kin ⟨M, T, f, funcs, count0, left0, P, S0, Q0, R0, pl, pc, sl0, sc0, ql0, qc0, rl0, rc0, A, len, cap⟩ ⟨M, T, f, funcs, count1, left4, P, S1, Q1, R1, pl, pc, sl1, sc1, ql1, qc1, rl1, rc1, A, len, cap⟩)) (HM4 : Hid (Mks lo B ⟨M, T, f, funcs, count1, left4, P, S1, Q1, R1, pl, pc, sl1, sc1, ql1, qc1, rl1, rc1, A, len, cap⟩ w [] w4)) (HS4 : Hid (StsAt w4 w.heap.size (d + 1) Ar l c ns)) {x3 x4 x5 x6 x10 x11 x12 x13 x14 x15 x16 x17 x18 x19 x20 x21 x22 x23 x24 x25 x26 x27 x28 x29 x30 x31 x32 x33 x34 x35 x36 x37 x38 x39 x40 x41 x42 x43 x44 x45 x46 x47 x48 x49 x50 x51 x52 x53 x54 x55 x56 x57 x58 x59 x60 x61 x62 x63 x64 x65 x66 x67 x68 x69 x70 x71 x72 x73 x74 x75 x76 x77 x78 x79 x80 x81 x82 x83 x84 x85 x86 x87 x88 x89 x90 x91 x92 x93 x94 x95 x96 x97 x98 x99 x100 x101 x102 x103 x104 x105 x106 x107 x108 x109 x110 x111 x112 x113 x114 x115 x116 x117 x118 x119 x120 x121 x122 x123 x124 x125 x126 x127 x128 x129 x130 x131 x132 x133 x134 x135 x136 x137 x138 x139 x140 x141 x142 x143 x144 x145 x146 x147 x148 x149 x150 x151 x152 x153 x154 x155 x156 x157 x158 x159 x160 x161 x162 x163 x164 x165 x166 x167 x168 x169 x170 x171 x172 x173 x174 x175 x176 x177 x178 x179 x180 x181 x182 x183 x184 x185 x186 x187 x188 x189 x190 x191 x192 x193 x194 x195 x196 x197 x198 x199 x200 x201 x202 x203 x204 x205 x206 x207 x208 x209 x210 x211 x212 x213 x214 x215 x216 x217 x218 x219 x220 x221 x222 x223 x224 x225 x226 x227 x228 x229 x230 x231 x232 x233 x234 x235 x236 x237 x238 x239 x240 x241 x242 x243 x244 x245 x246 x247 x248 x249 x250 x251 x252 x253 x254 x255 x256 x257 x258 : Value} (R : Exit → Act → World → Prop) (hR : ∀ a' w', SwEnd lo B w M nest most k l d left0 count0 ⟨M, T, f, funcs, count0, left0, P, S0, Q0, R0, pl, pc, sl0, sc0, ql0, qc0, rl0, rc0, A, len, cap⟩ x3 x4 x5 x6 x258 a' w' → R .normal a' w') (hcase : (r = 3 ∧ ¬ nest < 4)) : Code.wp Tryd.prog swBlock R ⟨#[.pointer (some ⟨M, 0, none⟩), .int .i64 nest, .int .i64 most, x3, x4, x5, x6, .slice Ar l c, .int .i64 k, .int .i64 r, x10, x11, x12, x13, x14, x15, x16, x17, x18, x19, x20, x21, x22, x23, x24, x25, x26, x27, x28, x29, x30, x31, x32, x33, x34, x35, x36, x37, x38, x39, x40, x41, x42, x43, x44, x45, x46, x47, x48, x49, x50, x51, x52, x53, x54, x55, x56, x57, x58, x59, x60, x61, x62, x63, x64, x65, x66, x67, x68, x69, x70, x71, x72, x73, x74, x75, x76, x77, x78, x79, x80, x81, x82, x83, x84, x85, x86, x87, x88, x89, x90, x91, x92, x93, x94, x95, x96, x97, x98, x99, x100, x101, x102, x103, x104, x105, x106, x107, x108, x109, x110, x111, x112, x113, x114, x115, x116, x117, x118, x119, x120, x121, x122, x123, x124, x125, x126, x127, x128, x129, x130, x131, x132, x133, x134, x135, x136, x137, x138, x139, x140, x141, x142, x143, x144, x145, x146, x147, x148, x149, x150, x151, x152, x153, x154, x155, x156, x157, x158, x159, x160, x161, x162, x163, x164, x165, x166, x167, x168, x169, x170, x171, x172, x173, x174, x175, x176, x177, x178, x179, x180, x181, x182, x183, x184, x185, x186, x187, x188, x189, x190, x191, x192, x193, x194, x195, x196, x197, x198, x199, x200, x201, x202, x203, x204, x205, x206, x207, x208, x209, x210, x211, x212, x213, x214, x215, x216, x217, x218, x219, x220, x221, x222, x223, x224, x225, x226, x227, x228, x229, x230, x231, x232, x233, x234, x235, x236, x237, x238, x239, x240, x241, x242, x243, x244, x245, x246, x247, x248, x249, x250, x251, x252, x253, x254, x255, x256, x257, x258], []⟩ w4 := by
 have HR := Lib.hid hR
 clear hR
 have HX4 := Lib.hid (KeptX.id w4)
 have hww := hz4
 have hz4 : w4.heap.size ≤ w4.heap.size := Nat.le_refl _
 have hk : k ≤ most := by omega
 have e0 := HM4.out.cx.maker.cell 0 (.pointer (some ⟨T, 0, none⟩)) rfl
 have e7 := HM4.out.cx.maker.cell 7 (.int .i64 count1) rfl
 dsimp only at e0 e7
 obtain ⟨_, _, _, n4, n5, n6, n7, n8, n9⟩ := HM4.out.cx.num
 dsimp only at n4 n5 n6 n7 n8 n9
 obtain ⟨rfl, hlt4⟩ := hcase
 simp only [swBlock, cFst, cSnd, cIn, Tryd.f26, Option.getD]
 go_wp2_with fail
 refine (assign_any B ⟨M, T, f, funcs, count1, left4, P, S1, Q1, R1, pl, pc, sl1, sc1, ql1, qc1, rl1, rc1, A, len, cap⟩ w4 HM4.out.cx).mono ?_
 rintro e w17 ⟨kd, fn, A1a, l1a, c1a, A2a, l2a, c2a, na, nb, rfl, hkd, hfn, hra, hrb, hsm, hc, hw⟩
 have hkx := hw.keptX
 have HM17 := Lib.hid (HM4.out.turned hc hw)
 have HX17 := Lib.hid (HX4.out.trans' hkx)
 have hz17 := hw.size
 clear hkx
 have HEa := Lib.hid hra
 have HEb := Lib.hid hrb
 clear hra hrb hc hw
 unfold asCells
 obtain ⟨w18, hw18⟩ : ∃ W, Hid (w17.alloc (.cells (#[.int .i64 (kd : Int), .int .i64 0, .int .i64 0, .string ⟨#[]⟩, .string ⟨#[]⟩, .int .i64 0, .int .i64 0, .slice A1a l1a c1a, .string fn, .int .i64 0, .slice A2a l2a c2a, .slice none 0 0, .slice none 0 0]) 75) = W) := ⟨_, Lib.hid rfl⟩
 have hb : Below w17.heap.size w17 w18 := by rw [← hw18.out]; exact (Below.refl _ _).alloc (Nat.le_refl _) _
 have HY18 : Hid (w18.heap[w17.heap.size]? = some (.cells (asCells kd fn A1a l1a c1a A2a l2a c2a) 75 (0, 0))) := Lib.hid (by rw [← hw18.out]; exact Array.getElem?_push_size)
 have hkx := KeptX.below hb
 have HM18 := Lib.hid (HM17.out.below hb)
 have HX18 := Lib.hid (HX17.out.trans' hkx)
 have HEa18 := Lib.hid (HEa.out.keep hkx.e)
 have HEb18 := Lib.hid (HEb.out.keep hkx.e)
 have hz18 := hb.size
 clear hkx
 clear hb
 have HSF := Lib.hid (HS4.out.kept HX18.out)
 have hST : StIn w18 (fun b => w.heap.size ≤ b ∧ some b ≠ blk Ar) (d + 1) (.agg (asCells kd fn A1a l1a c1a A2a l2a c2a)) (1 + na.sum + nb.sum) := stIn_plain hkd hfn HEa18.out HEb18.out rfl rfl _ d
 have HST := Lib.hid hST
 have hwf : w.heap.size ≤ w18.heap.size := HM18.out.went.size
 clear hST
 go_wp2_with (at_builtin; rw [hw18.out]; refine wpList_plain rfl (fun K hK => ?_); refine wp_append_one _ _ rfl w.heap.size (w17.heap.size) (d + 1) l c 1 (1 + na.sum + nb.sum) Ar ns (asCells kd fn A1a l1a c1a A2a l2a c2a) rfl HSF.out rfl HY18.out rfl (asCells_one _ _ _ _ _ _ _ _) HST.out (by omega) hwf ?_; intro A3 c3 w19 hgrow hplace hst7; have HMF := Lib.hid (HM18.out.rows HSF.out (Nat.le_refl _) (fun p hp => absurd hp (by simp)) hgrow); have HSL := Lib.hid hst7; clear hgrow hplace hst7; refine hK _ _ ?_)
 refine HR.out _ _ ?_
 exact ⟨_, _, _, _, _, _, _, _, _, _, _, _, _, _, _, _, _, _, _, _, _, _, _, _, _, _, _, _, _, _, _, _, _, _, _, _, _, _, _, _, _, _, _, _, _, _, _, _, _, _, _, _, _, _, _, _, _, _, _, _, _, _, _, _, _, _, _, _, _, _, _, _, _, _, _, _, _, _, _, _, _, _, _, _, _, _, _, _, _, _, _, _, _, _, _, _, _, _, _, _, _, _, _, _, _, _, _, _, _, _, _, _, _, _, _, _, _, _, _, _, _, _, _, _, _, _, _, _, _, _, _, _, _, _, _, _, _, _, _, _, _, _, _, _, _, _, _, _, _, _, _, _, _, _, _, _, _, _, _, _, _, _, _, _, _, _, _, _, _, _, _, _, _, _, _, _, _, _, _, _, _, _, _, _, _, _, _, _, _, _, _, _, _, _, _, _, _, _, _, _, _, _, _, _, _, _, _, _, _, _, _, _, _, _, _, _, _, _, _, _, _, _, _, _, _, _, _, _, _, _, _, _, _, _, _, _, _, _, _, _, _, _, _, _, _, _, _, _, _, l + 1, c3, A3, ns ++ [1 + na.sum + nb.sum], _, rfl, by omega, HSL.out, HKF.out, by dsimp only; omega, by dsimp only; omega, by rw [List.sum_append]; simp only [List.sum_cons, List.sum_nil]; (try dsimp only); omega, HMF.out⟩
set_option linter.unusedSimpArgs false in
set_option linter.unusedVariables false in
set_option maxHeartbeats 0 in
set_option maxRecDepth 100000 in
theorem sw_as4 (B : Nat) (nest d : Nat) (w w4 : World) (most k l c : Nat) (M T : Nat) (f funcs count0 left0 count1 left1 left4 r : Int) (P S0 Q0 R0 S1 Q1 R1 Ar : Option Addr) (pl pc sl0 sc0 ql0 qc0 rl0 rc0 sl1 sc1 ql1 qc1 rl1 rc1 : Nat) (A : Option Addr) (len cap : Nat) (ns : List Nat) (hnest : nest ≤ 4) (HIH : Hid (nest < 4 → BodyAt (nest + 1) d)) (HIL : Hid (nest < 4 → LoopAt nest d)) (H0 : Hid (M < w.heap.size)) (hmost : most ≤ 10) (hlt : k < most) (hl : l ≤ 2 * k) (hz4 : w.heap.size ≤ w4.heap.size) (hr0 : 0 ≤ r) (hr1 : r < 16) (hleft : left1 ≤ left0) (hcl : count1 + left1 ≤ count0 + left0) (hsum : (ns.sum : Int) ≤ 100 * (left0 - left1)) (hleft4 : left1 = left4 + 1) (n1 : 0 ≤ count1) (n2 : 0 ≤ left4) (n3 : count1 + left4 ≤ 21) (HKF : Hid (Kin ⟨M, T, f, funcs, count0, left0, P, S0, Q0, R0, pl, pc, sl0, sc0, ql0, qc0, rl0, rc0, A, len, cap⟩ ⟨M, T, f, funcs, count1, left4, P, S1, Q1, R1, pl, pc, sl1, sc1, ql1, qc1, rl1, rc1, A, len, cap⟩)) (HM4 : Hid (Mks lo B ⟨M, T, f, funcs, count1, left4, P, S1, Q1, R1, pl, pc, sl1, sc1, ql1, qc1, rl1, rc1, A, len, cap⟩ w [] w4)) (HS4 : Hid (StsAt w4 w.heap.size (d + 1) Ar l c ns)) {x3 x4 x5 x6 x10 x11 x12 x13 x14 x15 x16 x17 x18 x19 x20 x21 x22 x23 x24 x25 x26 x27 x28 x29 x30 x31 x32 x33 x34 x35 x36 x37 x38 x39 x40 x41 x42 x43 x44 x45 x46 x47 x48 x49 x50 x51 x52 x53 x54 x55 x56 x57 x58 x59 x60 x61 x62 x63 x64 x65 x66 x67 x68 x69 x70 x71 x72 x73 x74 x75 x76 x77 x78 x79 x80 x81 x82 x83 x84 x85 x86 x87 x88 x89 x90 x91 x92 x93 x94 x95 x96 x97 x98 x99 x100 x101 x102 x103 x104 x105 x106 x107 x108 x109 x110 x111 x112 x113 x114 x115 x116 x117 x118 x119 x120 x121 x122 x123 x124 x125 x126 x127 x128 x129 x130 x131 x132 x133 x134 x135 x136 x137 x138 x139 x140 x141 x142 x143 x144 x145 x146 x147 x148 x149 x150 x151 x152 x153 x154 x155 x156 x157 x158 x159 x160 x161 x162 x163 x164 x165 x166 x167 x168 x169 x170 x171 x172 x173 x174 x175 x176 x177 x178 x179 x180 x181 x182 x183 x184 x185 x186 x187 x188 x189 x190 x191 x192 x193 x194 x195 x196 x197 x198 x199 x200 x201 x202 x203 x204 x205 x206 x207 x208 x209 x210 x211 x212 x213 x214 x215 x216 x217 x218 x219 x220 x221 x222 x223 x224 x225 x226 x227 x228 x229 x230 x231 x232 x233 x234 x235 x236 x237 x238 x239 x240 x241 x242 x243 x244 x245 x246 x247 x248 x249 x250 x251 x252 x253 x254 x255 x256 x257 x258 : Value} (R : Exit → Act → World → Prop) (hR : ∀ a' w', SwEnd lo B w M nest most k l d left0 count0 ⟨M, T, f, funcs, count0, left0, P, S0, Q0, R0, pl, pc, sl0, sc0, ql0, qc0, rl0, rc0, A, len, cap⟩ x3 x4 x5 x6 x258 a' w' → R .normal a' w') (hcase : (r = 4 ∧ ¬ nest < 4)) : Code.wp Tryd.prog swBlock R ⟨#[.pointer (some ⟨M, 0, none⟩), .int .i64 nest, .int .i64 most, x3, x4, x5, x6, .slice Ar l c, .int .i64 k, .int .i64 r, x10, x11, x12, x13, x14, x15, x16, x17, x18, x19, x20, x21, x22, x23, x24, x25, x26, x27, x28, x29, x30, x31, x32, x33, x34, x35, x36, x37, x38, x39, x40, x41, x42, x43, x44, x45, x46, x47, x48, x49, x50, x51, x52, x53, x54, x55, x56, x57, x58, x59, x60, x61, x62, x63, x64, x65, x66, x67, x68, x69, x70, x71, x72, x73, x74, x75, x76, x77, x78, x79, x80, x81, x82, x83, x84, x85, x86, x87, x88, x89, x90, x91, x92, x93, x94, x95, x96, x97, x98, x99, x100, x101, x102, x103, x104, x105, x106, x107, x108, x109, x110, x111, x112, x113, x114, x115, x116, x117, x118, x119, x120, x121, x122, x123, x124, x125, x126, x127, x128, x129, x130, x131, x132, x133, x134, x135, x136, x137, x138, x139, x140, x141, x142, x143, x144, x145, x146, x147, x148, x149, x150, x151, x152, x153, x154, x155, x156, x157, x158, x159, x160, x161, x162, x163, x164, x165, x166, x167, x168, x169, x170, x171, x172, x173, x174, x175, x176, x177, x178, x179, x180, x181, x182, x183, x184, x185, x186, x187, x188, x189, x190, x191, x192, x193, x194, x195, x196, x197, x198, x199, x200, x201, x202, x203, x204, x205, x206, x207, x208, x209, x210, x211, x212, x213, x214, x215, x216, x217, x218, x219, x220, x221, x222, x223, x224, x225, x226, x227, x228, x229, x230, x231, x232, x233, x234, x235, x236, x237, x238, x239, x240, x241, x242, x243, x244, x245, x246, x247, x248, x249, x250, x251, x252, x253, x254, x255, x256, x257, x258], []⟩ w4 := by
 have HR := Lib.hid hR
 clear hR
 have HX4 := Lib.hid (KeptX.id w4)
 have hww := hz4
 have hz4 : w4.heap.size ≤ w4.heap.size := Nat.le_refl _
 have hk : k ≤ most := by omega
 have e0 := HM4.out.cx.maker.cell 0 (.pointer (some ⟨T, 0, none⟩)) rfl
 have e7 := HM4.out.cx.maker.cell 7 (.int .i64 count1) rfl
 dsimp only at e0 e7
 obtain ⟨_, _, _, n4, n5, n6, n7, n8, n9⟩ := HM4.out.cx.num
 dsimp only at n4 n5 n6 n7 n8 n9
 obtain ⟨rfl, hlt4⟩ := hcase
 simp only [swBlock, cFst, cSnd, cIn, Tryd.f26, Option.getD]
 go_wp2_with fail
 refine (assign_any B ⟨M, T, f, funcs, count1, left4, P, S1, Q1, R1, pl, pc, sl1, sc1, ql1, qc1, rl1, rc1, A, len, cap⟩ w4 HM4.out.cx).mono ?_
 rintro e w20 ⟨kd, fn, A1a, l1a, c1a, A2a, l2a, c2a, na, nb, rfl, hkd, hfn, hra, hrb, hsm, hc, hw⟩
 have hkx := hw.keptX
 have HM20 := Lib.hid (HM4.out.turned hc hw)
 have HX20 := Lib.hid (HX4.out.trans' hkx)
 have hz20 := hw.size
 clear hkx
 have HEa := Lib.hid hra
 have HEb := Lib.hid hrb
 clear hra hrb hc hw
 unfold asCells
 obtain ⟨w21, hw21⟩ : ∃ W, Hid (w20.alloc (.cells (#[.int .i64 (kd : Int), .int .i64 0, .int .i64 0, .string ⟨#[]⟩, .string ⟨#[]⟩, .int .i64 0, .int .i64 0, .slice A1a l1a c1a, .string fn, .int .i64 0, .slice A2a l2a c2a, .slice none 0 0, .slice none 0 0]) 75) = W) := ⟨_, Lib.hid rfl⟩
 have hb : Below w20.heap.size w20 w21 := by rw [← hw21.out]; exact (Below.refl _ _).alloc (Nat.le_refl _) _
 have HY21 : Hid (w21.heap[w20.heap.size]? = some (.cells (asCells kd fn A1a l1a c1a A2a l2a c2a) 75 (0, 0))) := Lib.hid (by rw [← hw21.out]; exact Array.getElem?_push_size)
 have hkx := KeptX.below hb
 have HM21 := Lib.hid (HM20.out.below hb)
 have HX21 := Lib.hid (HX20.out.trans' hkx)
 have HEa21 := Lib.hid (HEa.out.keep hkx.e)
 have HEb21 := Lib.hid (HEb.out.keep hkx.e)
 have hz21 := hb.size
 clear hkx
 clear hb
 have HSF := Lib.hid (HS4.out.kept HX21.out)
 have hST : StIn w21 (fun b => w.heap.size ≤ b ∧ some b ≠ blk Ar) (d + 1) (.agg (asCells kd fn A1a l1a c1a A2a l2a c2a)) (1 + na.sum + nb.sum) := stIn_plain hkd hfn HEa21.out HEb21.out rfl rfl _ d
 have HST := Lib.hid hST
 have hwf : w.heap.size ≤ w21.heap.size := HM21.out.went.size
 clear hST
 go_wp2_with (at_builtin; rw [hw21.out]; refine wpList_plain rfl (fun K hK => ?_); refine wp_append_one _ _ rfl w.heap.size (w20.heap.size) (d + 1) l c 1 (1 + na.sum + nb.sum) Ar ns (asCells kd fn A1a l1a c1a A2a l2a c2a) rfl HSF.out rfl HY21.out rfl (asCells_one _ _ _ _ _ _ _ _) HST.out (by omega) hwf ?_; intro A3 c3 w22 hgrow hplace hst7; have HMF := Lib.hid (HM21.out.rows HSF.out (Nat.le_refl _) (fun p hp => absurd hp (by simp)) hgrow); have HSL := Lib.hid hst7; clear hgrow hplace hst7; refine hK _ _ ?_)
 refine HR.out _ _ ?_
 exact ⟨_, _, _, _, _, _, _, _, _, _, _, _, _, _, _, _, _, _, _, _, _, _, _, _, _, _, _, _, _, _, _, _, _, _, _, _, _, _, _, _, _, _, _, _, _, _, _, _, _, _, _, _, _, _, _, _, _, _, _, _, _, _, _, _, _, _, _, _, _, _, _, _, _, _, _, _, _, _, _, _, _, _, _, _, _, _, _, _, _, _, _, _, _, _, _, _, _, _, _, _, _, _, _, _, _, _, _, _, _, _, _, _, _, _, _, _, _, _, _, _, _, _, _, _, _, _, _, _, _, _, _, _, _, _, _, _, _, _, _, _, _, _, _, _, _, _, _, _, _, _, _, _, _, _, _, _, _, _, _, _, _, _, _, _, _, _, _, _, _, _, _, _, _, _, _, _, _, _, _, _, _, _, _, _, _, _, _, _, _, _, _, _, _, _, _, _, _, _, _, _, _, _, _, _, _, _, _, _, _, _, _, _, _, _, _, _, _, _, _, _, _, _, _, _, _, _, _, _, _, _, _, _, _, _, _, _, _, _, _, _, _, _, _, _, _, _, _, _, _, l + 1, c3, A3, ns ++ [1 + na.sum + nb.sum], _, rfl, by omega, HSL.out, HKF.out, by dsimp only; omega, by dsimp only; omega, by rw [List.sum_append]; simp only [List.sum_cons, List.sum_nil]; (try dsimp only); omega, HMF.out⟩
end Go.Proofs.YtchibamdkaejdaaDoor
namespace Go.Proofs.YtchibamdkaejdaaDoor
open Go.RowKit
variable {lo : Nat}

set_option linter.unusedSimpArgs false in
set_option linter.unusedVariables false in
set_option maxHeartbeats 0 in
set_option maxRecDepth 100000 in
theorem sw_as4c (B : Nat) (nest d : Nat) (w w4 : World) (most k l c : Nat) (M T : Nat) (f funcs count0 left0 count1 left1 left4 r : Int) (P S0 Q0 R0 S1 Q1 R1 Ar : Option Addr) (pl pc sl0 sc0 ql0 qc0 rl0 rc0 sl1 sc1 ql1 qc1 rl1 rc1 : Nat) (A : Option Addr) (len cap : Nat) (ns : List Nat) (hnest : nest ≤ 4) (HIH : Hid (nest < 4 → BodyAt (nest + 1) d)) (HIL : Hid (nest < 4 → LoopAt nest d)) (H0 : Hid (M < w.heap.size)) (hmost : most ≤ 10) (hlt : k < most) (hl : l ≤ 2 * k) (hz4 : w.heap.size ≤ w4.heap.size) (hr0 : 0 ≤ r) (hr1 : r < 16) (hleft : left1 ≤ left0) (hcl : count1 + left1 ≤ count0 + left0) (hsum : (ns.sum : Int) ≤ 100 * (left0 - left1)) (hleft4 : left1 = left4 + 1) (n1 : 0 ≤ count1) (n2 : 0 ≤ left4) (n3 : count1 + left4 ≤ 21) (HKF : Hid (Kin ⟨M, T, f, funcs, count0, left0, P, S0, Q0, R0, pl, pc, sl0, sc0, ql0, qc0, rl0, rc0, A, len, cap⟩ ⟨M, T, f, funcs, count1, left4, P, S1, Q1, R1, pl, pc, sl1, sc1, ql1, qc1, rl1, rc1, A, len, cap⟩)) (HM4 : Hid (Mks lo B ⟨M, T, f, funcs, count1, left4, P, S1, Q1, R1, pl, pc, sl1, sc1, ql1, qc1, rl1, rc1, A, len, cap⟩ w [] w4)) (HS4 : Hid (StsAt w4 w.heap.size (d + 1) Ar l c ns)) {x3 x4 x5 x6 x10 x11 x12 x13 x14 x15 x16 x17 x18 x19 x20 x21 x22 x23 x24 x25 x26 x27 x28 x29 x30 x31 x32 x33 x34 x35 x36 x37 x38 x39 x40 x41 x42 x43 x44 x45 x46 x47 x48 x49 x50 x51 x52 x53 x54 x55 x56 x57 x58 x59 x60 x61 x62 x63 x64 x65 x66 x67 x68 x69 x70 x71 x72 x73 x74 x75 x76 x77 x78 x79 x80 x81 x82 x83 x84 x85 x86 x87 x88 x89 x90 x91 x92 x93 x94 x95 x96 x97 x98 x99 x100 x101 x102 x103 x104 x105 x106 x107 x108 x109 x110 x111 x112 x113 x114 x115 x116 x117 x118 x119 x120 x121 x122 x123 x124 x125 x126 x127 x128 x129 x130 x131 x132 x133 x134 x135 x136 x137 x138 x139 x140 x141 x142 x143 x144 x145 x146 x147 x148 x149 x150 x151 x152 x153 x154 x155 x156 x157 x158 x159 x160 x161 x162 x163 x164 x165 x166 x167 x168 x169 x170 x171 x172 x173 x174 x175 x176 x177 x178 x179 x180 x181 x182 x183 x184 x185 x186 x187 x188 x189 x190 x191 x192 x193 x194 x195 x196 x197 x198 x199 x200 x201 x202 x203 x204 x205 x206 x207 x208 x209 x210 x211 x212 x213 x214 x215 x216 x217 x218 x219 x220 x221 x222 x223 x224 x225 x226 x227 x228 x229 x230 x231 x232 x233 x234 x235 x236 x237 x238 x239 x240 x241 x242 x243 x244 x245 x246 x247 x248 x249 x250 x251 x252 x253 x254 x255 x256 x257 x258 : Value} (R : Exit → Act → World → Prop) (hR : ∀ a' w', SwEnd lo B w M nest most k l d left0 count0 ⟨M, T, f, funcs, count0, left0, P, S0, Q0, R0, pl, pc, sl0, sc0, ql0, qc0, rl0, rc0, A, len, cap⟩ x3 x4 x5 x6 x258 a' w' → R .normal a' w') (hcase : (r = 4 ∧ nest < 4 ∧ ¬ count1 < 14)) : Code.wp Tryd.prog swBlock R ⟨#[.pointer (some ⟨M, 0, none⟩), .int .i64 nest, .int .i64 most, x3, x4, x5, x6, .slice Ar l c, .int .i64 k, .int .i64 r, x10, x11, x12, x13, x14, x15, x16, x17, x18, x19, x20, x21, x22, x23, x24, x25, x26, x27, x28, x29, x30, x31, x32, x33, x34, x35, x36, x37, x38, x39, x40, x41, x42, x43, x44, x45, x46, x47, x48, x49, x50, x51, x52, x53, x54, x55, x56, x57, x58, x59, x60, x61, x62, x63, x64, x65, x66, x67, x68, x69, x70, x71, x72, x73, x74, x75, x76, x77, x78, x79, x80, x81, x82, x83, x84, x85, x86, x87, x88, x89, x90, x91, x92, x93, x94, x95, x96, x97, x98, x99, x100, x101, x102, x103, x104, x105, x106, x107, x108, x109, x110, x111, x112, x113, x114, x115, x116, x117, x118, x119, x120, x121, x122, x123, x124, x125, x126, x127, x128, x129, x130, x131, x132, x133, x134, x135, x136, x137, x138, x139, x140, x141, x142, x143, x144, x145, x146, x147, x148, x149, x150, x151, x152, x153, x154, x155, x156, x157, x158, x159, x160, x161, x162, x163, x164, x165, x166, x167, x168, x169, x170, x171, x172, x173, x174, x175, x176, x177, x178, x179, x180, x181, x182, x183, x184, x185, x186, x187, x188, x189, x190, x191, x192, x193, x194, x195, x196, x197, x198, x199, x200, x201, x202, x203, x204, x205, x206, x207, x208, x209, x210, x211, x212, x213, x214, x215, x216, x217, x218, x219, x220, x221, x222, x223, x224, x225, x226, x227, x228, x229, x230, x231, x232, x233, x234, x235, x236, x237, x238, x239, x240, x241, x242, x243, x244, x245, x246, x247, x248, x249, x250, x251, x252, x253, x254, x255, x256, x257, x258], []⟩ w4 := by
 have HR := Lib.hid hR
 clear hR
 have HX4 := Lib.hid (KeptX.id w4)
 have hww := hz4
 have hz4 : w4.heap.size ≤ w4.heap.size := Nat.le_refl _
 have hk : k ≤ most := by omega
 have e0 := HM4.out.cx.maker.cell 0 (.pointer (some ⟨T, 0, none⟩)) rfl
 have e7 := HM4.out.cx.maker.cell 7 (.int .i64 count1) rfl
 dsimp only at e0 e7
 obtain ⟨_, _, _, n4, n5, n6, n7, n8, n9⟩ := HM4.out.cx.num
 dsimp only at n4 n5 n6 n7 n8 n9
 obtain ⟨rfl, hlt4, hct⟩ := hcase
 simp only [swBlock, cFst, cSnd, cIn, Tryd.f26, Option.getD]
 go_wp2_with fail
 refine (assign_any B ⟨M, T, f, funcs, count1, left4, P, S1, Q1, R1, pl, pc, sl1, sc1, ql1, qc1, rl1, rc1, A, len, cap⟩ w4 HM4.out.cx).mono ?_
 rintro e w11 ⟨kd, fn, A1a, l1a, c1a, A2a, l2a, c2a, na, nb, rfl, hkd, hfn, hra, hrb, hsm, hc, hw⟩
 have hkx := hw.keptX
 have HM11 := Lib.hid (HM4.out.turned hc hw)
 have HX11 := Lib.hid (HX4.out.trans' hkx)
 have hz11 := hw.size
 clear hkx
 have HEa := Lib.hid hra
 have HEb := Lib.hid hrb
 clear hra hrb hc hw
 unfold asCells
 obtain ⟨w12, hw12⟩ : ∃ W, Hid (w11.alloc (.cells (#[.int .i64 (kd : Int), .int .i64 0, .int .i64 0, .string ⟨#[]⟩, .string ⟨#[]⟩, .int .i64 0, .int .i64 0, .slice A1a l1a c1a, .string fn, .int .i64 0, .slice A2a l2a c2a, .slice none 0 0, .slice none 0 0]) 75) = W) := ⟨_, Lib.hid rfl⟩
 have hb : Below w11.heap.size w11 w12 := by rw [← hw12.out]; exact (Below.refl _ _).alloc (Nat.le_refl _) _
 have HY12 : Hid (w12.heap[w11.heap.size]? = some (.cells (asCells kd fn A1a l1a c1a A2a l2a c2a) 75 (0, 0))) := Lib.hid (by rw [← hw12.out]; exact Array.getElem?_push_size)
 have hkx := KeptX.below hb
 have HM12 := Lib.hid (HM11.out.below hb)
 have HX12 := Lib.hid (HX11.out.trans' hkx)
 have HEa12 := Lib.hid (HEa.out.keep hkx.e)
 have HEb12 := Lib.hid (HEb.out.keep hkx.e)
 have hz12 := hb.size
 clear hkx
 clear hb
 have HSF := Lib.hid (HS4.out.kept HX12.out)
 have hST : StIn w12 (fun b => w.heap.size ≤ b ∧ some b ≠ blk Ar) (d + 1) (.agg (asCells kd fn A1a l1a c1a A2a l2a c2a)) (1 + na.sum + nb.sum) := stIn_plain hkd hfn HEa12.out HEb12.out rfl rfl _ d
 have HST := Lib.hid hST
 have hwf : w.heap.size ≤ w12.heap.size := HM12.out.went.size
 clear hST
 go_wp2_with (at_builtin; rw [hw12.out]; refine wpList_plain rfl (fun K hK => ?_); refine wp_append_one _ _ rfl w.heap.size (w11.heap.size) (d + 1) l c 1 (1 + na.sum + nb.sum) Ar ns (asCells kd fn A1a l1a c1a A2a l2a c2a) rfl HSF.out rfl HY12.out rfl (asCells_one _ _ _ _ _ _ _ _) HST.out (by omega) hwf ?_; intro A3 c3 w13 hgrow hplace hst7; have HMF := Lib.hid (HM12.out.rows HSF.out (Nat.le_refl _) (fun p hp => absurd hp (by simp)) hgrow); have HSL := Lib.hid hst7; clear hgrow hplace hst7; refine hK _ _ ?_)
 refine HR.out _ _ ?_
 exact ⟨_, _, _, _, _, _, _, _, _, _, _, _, _, _, _, _, _, _, _, _, _, _, _, _, _, _, _, _, _, _, _, _, _, _, _, _, _, _, _, _, _, _, _, _, _, _, _, _, _, _, _, _, _, _, _, _, _, _, _, _, _, _, _, _, _, _, _, _, _, _, _, _, _, _, _, _, _, _, _, _, _, _, _, _, _, _, _, _, _, _, _, _, _, _, _, _, _, _, _, _, _, _, _, _, _, _, _, _, _, _, _, _, _, _, _, _, _, _, _, _, _, _, _, _, _, _, _, _, _, _, _, _, _, _, _, _, _, _, _, _, _, _, _, _, _, _, _, _, _, _, _, _, _, _, _, _, _, _, _, _, _, _, _, _, _, _, _, _, _, _, _, _, _, _, _, _, _, _, _, _, _, _, _, _, _, _, _, _, _, _, _, _, _, _, _, _, _, _, _, _, _, _, _, _, _, _, _, _, _, _, _, _, _, _, _, _, _, _, _, _, _, _, _, _, _, _, _, _, _, _, _, _, _, _, _, _, _, _, _, _, _, _, _, _, _, _, _, _, _, l + 1, c3, A3, ns ++ [1 + na.sum + nb.sum], _, rfl, by omega, HSL.out, HKF.out, by dsimp only; omega, by dsimp only; omega, by rw [List.sum_append]; simp only [List.sum_cons, List.sum_nil]; (try dsimp only); omega, HMF.out⟩
set_option linter.unusedSimpArgs false in
set_option linter.unusedVariables false in
set_option maxHeartbeats 0 in
set_option maxRecDepth 100000 in
theorem sw_as5 (B : Nat) (nest d : Nat) (w w4 : World) (most k l c : Nat) (M T : Nat) (f funcs count0 left0 count1 left1 left4 r : Int) (P S0 Q0 R0 S1 Q1 R1 Ar : Option Addr) (pl pc sl0 sc0 ql0 qc0 rl0 rc0 sl1 sc1 ql1 qc1 rl1 rc1 : Nat) (A : Option Addr) (len cap : Nat) (ns : List Nat) (hnest : nest ≤ 4) (HIH : Hid (nest < 4 → BodyAt (nest + 1) d)) (HIL : Hid (nest < 4 → LoopAt nest d)) (H0 : Hid (M < w.heap.size)) (hmost : most ≤ 10) (hlt : k < most) (hl : l ≤ 2 * k) (hz4 : w.heap.size ≤ w4.heap.size) (hr0 : 0 ≤ r) (hr1 : r < 16) (hleft : left1 ≤ left0) (hcl : count1 + left1 ≤ count0 + left0) (hsum : (ns.sum : Int) ≤ 100 * (left0 - left1)) (hleft4 : left1 = left4 + 1) (n1 : 0 ≤ count1) (n2 : 0 ≤ left4) (n3 : count1 + left4 ≤ 21) (HKF : Hid (Kin ⟨M, T, f, funcs, count0, left0, P, S0, Q0, R0, pl, pc, sl0, sc0, ql0, qc0, rl0, rc0, A, len, cap⟩ ⟨M, T, f, funcs, count1, left4, P, S1, Q1, R1, pl, pc, sl1, sc1, ql1, qc1, rl1, rc1, A, len, cap⟩)) (HM4 : Hid (Mks lo B ⟨M, T, f, funcs, count1, left4, P, S1, Q1, R1, pl, pc, sl1, sc1, ql1, qc1, rl1, rc1, A, len, cap⟩ w [] w4)) (HS4 : Hid (StsAt w4 w.heap.size (d + 1) Ar l c ns)) {x3 x4 x5 x6 x10 x11 x12 x13 x14 x15 x16 x17 x18 x19 x20 x21 x22 x23 x24 x25 x26 x27 x28 x29 x30 x31 x32 x33 x34 x35 x36 x37 x38 x39 x40 x41 x42 x43 x44 x45 x46 x47 x48 x49 x50 x51 x52 x53 x54 x55 x56 x57 x58 x59 x60 x61 x62 x63 x64 x65 x66 x67 x68 x69 x70 x71 x72 x73 x74 x75 x76 x77 x78 x79 x80 x81 x82 x83 x84 x85 x86 x87 x88 x89 x90 x91 x92 x93 x94 x95 x96 x97 x98 x99 x100 x101 x102 x103 x104 x105 x106 x107 x108 x109 x110 x111 x112 x113 x114 x115 x116 x117 x118 x119 x120 x121 x122 x123 x124 x125 x126 x127 x128 x129 x130 x131 x132 x133 x134 x135 x136 x137 x138 x139 x140 x141 x142 x143 x144 x145 x146 x147 x148 x149 x150 x151 x152 x153 x154 x155 x156 x157 x158 x159 x160 x161 x162 x163 x164 x165 x166 x167 x168 x169 x170 x171 x172 x173 x174 x175 x176 x177 x178 x179 x180 x181 x182 x183 x184 x185 x186 x187 x188 x189 x190 x191 x192 x193 x194 x195 x196 x197 x198 x199 x200 x201 x202 x203 x204 x205 x206 x207 x208 x209 x210 x211 x212 x213 x214 x215 x216 x217 x218 x219 x220 x221 x222 x223 x224 x225 x226 x227 x228 x229 x230 x231 x232 x233 x234 x235 x236 x237 x238 x239 x240 x241 x242 x243 x244 x245 x246 x247 x248 x249 x250 x251 x252 x253 x254 x255 x256 x257 x258 : Value} (R : Exit → Act → World → Prop) (hR : ∀ a' w', SwEnd lo B w M nest most k l d left0 count0 ⟨M, T, f, funcs, count0, left0, P, S0, Q0, R0, pl, pc, sl0, sc0, ql0, qc0, rl0, rc0, A, len, cap⟩ x3 x4 x5 x6 x258 a' w' → R .normal a' w') (hcase : (r = 5 ∧ ¬ nest < 4)) : Code.wp Tryd.prog swBlock R ⟨#[.pointer (some ⟨M, 0, none⟩), .int .i64 nest, .int .i64 most, x3, x4, x5, x6, .slice Ar l c, .int .i64 k, .int .i64 r, x10, x11, x12, x13, x14, x15, x16, x17, x18, x19, x20, x21, x22, x23, x24, x25, x26, x27, x28, x29, x30, x31, x32, x33, x34, x35, x36, x37, x38, x39, x40, x41, x42, x43, x44, x45, x46, x47, x48, x49, x50, x51, x52, x53, x54, x55, x56, x57, x58, x59, x60, x61, x62, x63, x64, x65, x66, x67, x68, x69, x70, x71, x72, x73, x74, x75, x76, x77, x78, x79, x80, x81, x82, x83, x84, x85, x86, x87, x88, x89, x90, x91, x92, x93, x94, x95, x96, x97, x98, x99, x100, x101, x102, x103, x104, x105, x106, x107, x108, x109, x110, x111, x112, x113, x114, x115, x116, x117, x118, x119, x120, x121, x122, x123, x124, x125, x126, x127, x128, x129, x130, x131, x132, x133, x134, x135, x136, x137, x138, x139, x140, x141, x142, x143, x144, x145, x146, x147, x148, x149, x150, x151, x152, x153, x154, x155, x156, x157, x158, x159, x160, x161, x162, x163, x164, x165, x166, x167, x168, x169, x170, x171, x172, x173, x174, x175, x176, x177, x178, x179, x180, x181, x182, x183, x184, x185, x186, x187, x188, x189, x190, x191, x192, x193, x194, x195, x196, x197, x198, x199, x200, x201, x202, x203, x204, x205, x206, x207, x208, x209, x210, x211, x212, x213, x214, x215, x216, x217, x218, x219, x220, x221, x222, x223, x224, x225, x226, x227, x228, x229, x230, x231, x232, x233, x234, x235, x236, x237, x238, x239, x240, x241, x242, x243, x244, x245, x246, x247, x248, x249, x250, x251, x252, x253, x254, x255, x256, x257, x258], []⟩ w4 := by
 have HR := Lib.hid hR
 clear hR
 have HX4 := Lib.hid (KeptX.id w4)
 have hww := hz4
 have hz4 : w4.heap.size ≤ w4.heap.size := Nat.le_refl _
 have hk : k ≤ most := by omega
 have e0 := HM4.out.cx.maker.cell 0 (.pointer (some ⟨T, 0, none⟩)) rfl
 have e7 := HM4.out.cx.maker.cell 7 (.int .i64 count1) rfl
 dsimp only at e0 e7
 obtain ⟨_, _, _, n4, n5, n6, n7, n8, n9⟩ := HM4.out.cx.num
 dsimp only at n4 n5 n6 n7 n8 n9
 obtain ⟨rfl, hlt4⟩ := hcase
 simp only [swBlock, cFst, cSnd, cIn, Tryd.f26, Option.getD]
 go_wp2_with fail
 refine (assign_any B ⟨M, T, f, funcs, count1, left4, P, S1, Q1, R1, pl, pc, sl1, sc1, ql1, qc1, rl1, rc1, A, len, cap⟩ w4 HM4.out.cx).mono ?_
 rintro e w14 ⟨kd, fn, A1a, l1a, c1a, A2a, l2a, c2a, na, nb, rfl, hkd, hfn, hra, hrb, hsm, hc, hw⟩
 have hkx := hw.keptX
 have HM14 := Lib.hid (HM4.out.turned hc hw)
 have HX14 := Lib.hid (HX4.out.trans' hkx)
 have hz14 := hw.size
 clear hkx
 have HEa := Lib.hid hra
 have HEb := Lib.hid hrb
 clear hra hrb hc hw
 unfold asCells
 obtain ⟨w15, hw15⟩ : ∃ W, Hid (w14.alloc (.cells (#[.int .i64 (kd : Int), .int .i64 0, .int .i64 0, .string ⟨#[]⟩, .string ⟨#[]⟩, .int .i64 0, .int .i64 0, .slice A1a l1a c1a, .string fn, .int .i64 0, .slice A2a l2a c2a, .slice none 0 0, .slice none 0 0]) 75) = W) := ⟨_, Lib.hid rfl⟩
 have hb : Below w14.heap.size w14 w15 := by rw [← hw15.out]; exact (Below.refl _ _).alloc (Nat.le_refl _) _
 have HY15 : Hid (w15.heap[w14.heap.size]? = some (.cells (asCells kd fn A1a l1a c1a A2a l2a c2a) 75 (0, 0))) := Lib.hid (by rw [← hw15.out]; exact Array.getElem?_push_size)
 have hkx := KeptX.below hb
 have HM15 := Lib.hid (HM14.out.below hb)
 have HX15 := Lib.hid (HX14.out.trans' hkx)
 have HEa15 := Lib.hid (HEa.out.keep hkx.e)
 have HEb15 := Lib.hid (HEb.out.keep hkx.e)
 have hz15 := hb.size
 clear hkx
 clear hb
 have HSF := Lib.hid (HS4.out.kept HX15.out)
 have hST : StIn w15 (fun b => w.heap.size ≤ b ∧ some b ≠ blk Ar) (d + 1) (.agg (asCells kd fn A1a l1a c1a A2a l2a c2a)) (1 + na.sum + nb.sum) := stIn_plain hkd hfn HEa15.out HEb15.out rfl rfl _ d
 have HST := Lib.hid hST
 have hwf : w.heap.size ≤ w15.heap.size := HM15.out.went.size
 clear hST
 go_wp2_with (at_builtin; rw [hw15.out]; refine wpList_plain rfl (fun K hK => ?_); refine wp_append_one _ _ rfl w.heap.size (w14.heap.size) (d + 1) l c 1 (1 + na.sum + nb.sum) Ar ns (asCells kd fn A1a l1a c1a A2a l2a c2a) rfl HSF.out rfl HY15.out rfl (asCells_one _ _ _ _ _ _ _ _) HST.out (by omega) hwf ?_; intro A3 c3 w16 hgrow hplace hst7; have HMF := Lib.hid (HM15.out.rows HSF.out (Nat.le_refl _) (fun p hp => absurd hp (by simp)) hgrow); have HSL := Lib.hid hst7; clear hgrow hplace hst7; refine hK _ _ ?_)
 refine HR.out _ _ ?_
 exact ⟨_, _, _, _, _, _, _, _, _, _, _, _, _, _, _, _, _, _, _, _, _, _, _, _, _, _, _, _, _, _, _, _, _, _, _, _, _, _, _, _, _, _, _, _, _, _, _, _, _, _, _, _, _, _, _, _, _, _, _, _, _, _, _, _, _, _, _, _, _, _, _, _, _, _, _, _, _, _, _, _, _, _, _, _, _, _, _, _, _, _, _, _, _, _, _, _, _, _, _, _, _, _, _, _, _, _, _, _, _, _, _, _, _, _, _, _, _, _, _, _, _, _, _, _, _, _, _, _, _, _, _, _, _, _, _, _, _, _, _, _, _, _, _, _, _, _, _, _, _, _, _, _, _, _, _, _, _, _, _, _, _, _, _, _, _, _, _, _, _, _, _, _, _, _, _, _, _, _, _, _, _, _, _, _, _, _, _, _, _, _, _, _, _, _, _, _, _, _, _, _, _, _, _, _, _, _, _, _, _, _, _, _, _, _, _, _, _, _, _, _, _, _, _, _, _, _, _, _, _, _, _, _, _, _, _, _, _, _, _, _, _, _, _, _, _, _, _, _, _, l + 1, c3, A3, ns ++ [1 + na.sum + nb.sum], _, rfl, by omega, HSL.out, HKF.out, by dsimp only; omega, by dsimp only; omega, by rw [List.sum_append]; simp only [List.sum_cons, List.sum_nil]; (try dsimp only); omega, HMF.out⟩
set_option linter.unusedSimpArgs false in
set_option linter.unusedVariables false in
set_option maxHeartbeats 0 in
set_option maxRecDepth 100000 in
theorem sw_as5c (B : Nat) (nest d : Nat) (w w4 : World) (most k l c : Nat) (M T : Nat) (f funcs count0 left0 count1 left1 left4 r : Int) (P S0 Q0 R0 S1 Q1 R1 Ar : Option Addr) (pl pc sl0 sc0 ql0 qc0 rl0 rc0 sl1 sc1 ql1 qc1 rl1 rc1 : Nat) (A : Option Addr) (len cap : Nat) (ns : List Nat) (hnest : nest ≤ 4) (HIH : Hid (nest < 4 → BodyAt (nest + 1) d)) (HIL : Hid (nest < 4 → LoopAt nest d)) (H0 : Hid (M < w.heap.size)) (hmost : most ≤ 10) (hlt : k < most) (hl : l ≤ 2 * k) (hz4 : w.heap.size ≤ w4.heap.size) (hr0 : 0 ≤ r) (hr1 : r < 16) (hleft : left1 ≤ left0) (hcl : count1 + left1 ≤ count0 + left0) (hsum : (ns.sum : Int) ≤ 100 * (left0 - left1)) (hleft4 : left1 = left4 + 1) (n1 : 0 ≤ count1) (n2 : 0 ≤ left4) (n3 : count1 + left4 ≤ 21) (HKF : Hid (Kin ⟨M, T, f, funcs, count0, left0, P, S0, Q0, R0, pl, pc, sl0, sc0, ql0, qc0, rl0, rc0, A, len, cap⟩ ⟨M, T, f, funcs, count1, left4, P, S1, Q1, R1, pl, pc, sl1, sc1, ql1, qc1, rl1, rc1, A, len, cap⟩)) (HM4 : Hid (Mks lo B ⟨M, T, f, funcs, count1, left4, P, S1, Q1, R1, pl, pc, sl1, sc1, ql1, qc1, rl1, rc1, A, len, cap⟩ w [] w4)) (HS4 : Hid (StsAt w4 w.heap.size (d + 1) Ar l c ns)) {x3 x4 x5 x6 x10 x11 x12 x13 x14 x15 x16 x17 x18 x19 x20 x21 x22 x23 x24 x25 x26 x27 x28 x29 x30 x31 x32 x33 x34 x35 x36 x37 x38 x39 x40 x41 x42 x43 x44 x45 x46 x47 x48 x49 x50 x51 x52 x53 x54 x55 x56 x57 x58 x59 x60 x61 x62 x63 x64 x65 x66 x67 x68 x69 x70 x71 x72 x73 x74 x75 x76 x77 x78 x79 x80 x81 x82 x83 x84 x85 x86 x87 x88 x89 x90 x91 x92 x93 x94 x95 x96 x97 x98 x99 x100 x101 x102 x103 x104 x105 x106 x107 x108 x109 x110 x111 x112 x113 x114 x115 x116 x117 x118 x119 x120 x121 x122 x123 x124 x125 x126 x127 x128 x129 x130 x131 x132 x133 x134 x135 x136 x137 x138 x139 x140 x141 x142 x143 x144 x145 x146 x147 x148 x149 x150 x151 x152 x153 x154 x155 x156 x157 x158 x159 x160 x161 x162 x163 x164 x165 x166 x167 x168 x169 x170 x171 x172 x173 x174 x175 x176 x177 x178 x179 x180 x181 x182 x183 x184 x185 x186 x187 x188 x189 x190 x191 x192 x193 x194 x195 x196 x197 x198 x199 x200 x201 x202 x203 x204 x205 x206 x207 x208 x209 x210 x211 x212 x213 x214 x215 x216 x217 x218 x219 x220 x221 x222 x223 x224 x225 x226 x227 x228 x229 x230 x231 x232 x233 x234 x235 x236 x237 x238 x239 x240 x241 x242 x243 x244 x245 x246 x247 x248 x249 x250 x251 x252 x253 x254 x255 x256 x257 x258 : Value} (R : Exit → Act → World → Prop) (hR : ∀ a' w', SwEnd lo B w M nest most k l d left0 count0 ⟨M, T, f, funcs, count0, left0, P, S0, Q0, R0, pl, pc, sl0, sc0, ql0, qc0, rl0, rc0, A, len, cap⟩ x3 x4 x5 x6 x258 a' w' → R .normal a' w') (hcase : (r = 5 ∧ nest < 4 ∧ ¬ count1 < 14)) : Code.wp Tryd.prog swBlock R ⟨#[.pointer (some ⟨M, 0, none⟩), .int .i64 nest, .int .i64 most, x3, x4, x5, x6, .slice Ar l c, .int .i64 k, .int .i64 r, x10, x11, x12, x13, x14, x15, x16, x17, x18, x19, x20, x21, x22, x23, x24, x25, x26, x27, x28, x29, x30, x31, x32, x33, x34, x35, x36, x37, x38, x39, x40, x41, x42, x43, x44, x45, x46, x47, x48, x49, x50, x51, x52, x53, x54, x55, x56, x57, x58, x59, x60, x61, x62, x63, x64, x65, x66, x67, x68, x69, x70, x71, x72, x73, x74, x75, x76, x77, x78, x79, x80, x81, x82, x83, x84, x85, x86, x87, x88, x89, x90, x91, x92, x93, x94, x95, x96, x97, x98, x99, x100, x101, x102, x103, x104, x105, x106, x107, x108, x109, x110, x111, x112, x113, x114, x115, x116, x117, x118, x119, x120, x121, x122, x123, x124, x125, x126, x127, x128, x129, x130, x131, x132, x133, x134, x135, x136, x137, x138, x139, x140, x141, x142, x143, x144, x145, x146, x147, x148, x149, x150, x151, x152, x153, x154, x155, x156, x157, x158, x159, x160, x161, x162, x163, x164, x165, x166, x167, x168, x169, x170, x171, x172, x173, x174, x175, x176, x177, x178, x179, x180, x181, x182, x183, x184, x185, x186, x187, x188, x189, x190, x191, x192, x193, x194, x195, x196, x197, x198, x199, x200, x201, x202, x203, x204, x205, x206, x207, x208, x209, x210, x211, x212, x213, x214, x215, x216, x217, x218, x219, x220, x221, x222, x223, x224, x225, x226, x227, x228, x229, x230, x231, x232, x233, x234, x235, x236, x237, x238, x239, x240, x241, x242, x243, x244, x245, x246, x247, x248, x249, x250, x251, x252, x253, x254, x255, x256, x257, x258], []⟩ w4 := by
 have HR := Lib.hid hR
 clear hR
 have HX4 := Lib.hid (KeptX.id w4)
 have hww := hz4
 have hz4 : w4.heap.size ≤ w4.heap.size := Nat.le_refl _
 have hk : k ≤ most := by omega
 have e0 := HM4.out.cx.maker.cell 0 (.pointer (some ⟨T, 0, none⟩)) rfl
 have e7 := HM4.out.cx.maker.cell 7 (.int .i64 count1) rfl
 dsimp only at e0 e7
 obtain ⟨_, _, _, n4, n5, n6, n7, n8, n9⟩ := HM4.out.cx.num
 dsimp only at n4 n5 n6 n7 n8 n9
 obtain ⟨rfl, hlt4, hct⟩ := hcase
 simp only [swBlock, cFst, cSnd, cIn, Tryd.f26, Option.getD]
 go_wp2_with fail
 refine (assign_any B ⟨M, T, f, funcs, count1, left4, P, S1, Q1, R1, pl, pc, sl1, sc1, ql1, qc1, rl1, rc1, A, len, cap⟩ w4 HM4.out.cx).mono ?_
 rintro e w17 ⟨kd, fn, A1a, l1a, c1a, A2a, l2a, c2a, na, nb, rfl, hkd, hfn, hra, hrb, hsm, hc, hw⟩
 have hkx := hw.keptX
 have HM17 := Lib.hid (HM4.out.turned hc hw)
 have HX17 := Lib.hid (HX4.out.trans' hkx)
 have hz17 := hw.size
 clear hkx
 have HEa := Lib.hid hra
 have HEb := Lib.hid hrb
 clear hra hrb hc hw
 unfold asCells
 obtain ⟨w18, hw18⟩ : ∃ W, Hid (w17.alloc (.cells (#[.int .i64 (kd : Int), .int .i64 0, .int .i64 0, .string ⟨#[]⟩, .string ⟨#[]⟩, .int .i64 0, .int .i64 0, .slice A1a l1a c1a, .string fn, .int .i64 0, .slice A2a l2a c2a, .slice none 0 0, .slice none 0 0]) 75) = W) := ⟨_, Lib.hid rfl⟩
 have hb : Below w17.heap.size w17 w18 := by rw [← hw18.out]; exact (Below.refl _ _).alloc (Nat.le_refl _) _
 have HY18 : Hid (w18.heap[w17.heap.size]? = some (.cells (asCells kd fn A1a l1a c1a A2a l2a c2a) 75 (0, 0))) := Lib.hid (by rw [← hw18.out]; exact Array.getElem?_push_size)
 have hkx := KeptX.below hb
 have HM18 := Lib.hid (HM17.out.below hb)
 have HX18 := Lib.hid (HX17.out.trans' hkx)
 have HEa18 := Lib.hid (HEa.out.keep hkx.e)
 have HEb18 := Lib.hid (HEb.out.keep hkx.e)
 have hz18 := hb.size
 clear hkx
 clear hb
 have HSF := Lib.hid (HS4.out.kept HX18.out)
 have hST : StIn w18 (fun b => w.heap.size ≤ b ∧ some b ≠ blk Ar) (d + 1) (.agg (asCells kd fn A1a l1a c1a A2a l2a c2a)) (1 + na.sum + nb.sum) := stIn_plain hkd hfn HEa18.out HEb18.out rfl rfl _ d
 have HST := Lib.hid hST
 have hwf : w.heap.size ≤ w18.heap.size := HM18.out.went.size
 clear hST
 go_wp2_with (at_builtin; rw [hw18.out]; refine wpList_plain rfl (fun K hK => ?_); refine wp_append_one _ _ rfl w.heap.size (w17.heap.size) (d + 1) l c 1 (1 + na.sum + nb.sum) Ar ns (asCells kd fn A1a l1a c1a A2a l2a c2a) rfl HSF.out rfl HY18.out rfl (asCells_one _ _ _ _ _ _ _ _) HST.out (by omega) hwf ?_; intro A3 c3 w19 hgrow hplace hst7; have HMF := Lib.hid (HM18.out.rows HSF.out (Nat.le_refl _) (fun p hp => absurd hp (by simp)) hgrow); have HSL := Lib.hid hst7; clear hgrow hplace hst7; refine hK _ _ ?_)
 refine HR.out _ _ ?_
 exact ⟨_, _, _, _, _, _, _, _, _, _, _, _, _, _, _, _, _, _, _, _, _, _, _, _, _, _, _, _, _, _, _, _, _, _, _, _, _, _, _, _, _, _, _, _, _, _, _, _, _, _, _, _, _, _, _, _, _, _, _, _, _, _, _, _, _, _, _, _, _, _, _, _, _, _, _, _, _, _, _, _, _, _, _, _, _, _, _, _, _, _, _, _, _, _, _, _, _, _, _, _, _, _, _, _, _, _, _, _, _, _, _, _, _, _, _, _, _, _, _, _, _, _, _, _, _, _, _, _, _, _, _, _, _, _, _, _, _, _, _, _, _, _, _, _, _, _, _, _, _, _, _, _, _, _, _, _, _, _, _, _, _, _, _, _, _, _, _, _, _, _, _, _, _, _, _, _, _, _, _, _, _, _, _, _, _, _, _, _, _, _, _, _, _, _, _, _, _, _, _, _, _, _, _, _, _, _, _, _, _, _, _, _, _, _, _, _, _, _, _, _, _, _, _, _, _, _, _, _, _, _, _, _, _, _, _, _, _, _, _, _, _, _, _, _, _, _, _, _, _, l + 1, c3, A3, ns ++ [1 + na.sum + nb.sum], _, rfl, by omega, HSL.out, HKF.out, by dsimp only; omega, by dsimp only; omega, by rw [List.sum_append]; simp only [List.sum_cons, List.sum_nil]; (try dsimp only); omega, HMF.out⟩
set_option linter.unusedSimpArgs false in
set_option linter.unusedVariables false in
set_option maxHeartbeats 0 in
set_option maxRecDepth 100000 in
theorem sw_as9 (B : Nat) (nest d : Nat) (w w4 : World) (most k l c : Nat) (M T : Nat) (f funcs count0 left0 count1 left1 left4 r : Int) (P S0 Q0 R0 S1 Q1 R1 Ar : Option Addr) (pl pc sl0 sc0 ql0 qc0 rl0 rc0 sl1 sc1 ql1 qc1 rl1 rc1 : Nat) (A : Option Addr) (len cap : Nat) (ns : List Nat) (hnest : nest ≤ 4) (HIH : Hid (nest < 4 → BodyAt (nest + 1) d)) (HIL : Hid (nest < 4 → LoopAt nest d)) (H0 : Hid (M < w.heap.size)) (hmost : most ≤ 10) (hlt : k < most) (hl : l ≤ 2 * k) (hz4 : w.heap.size ≤ w4.heap.size) (hr0 : 0 ≤ r) (hr1 : r < 16) (hleft : left1 ≤ left0) (hcl : count1 + left1 ≤ count0 + left0) (hsum : (ns.sum : Int) ≤ 100 * (left0 - left1)) (hleft4 : left1 = left4 + 1) (n1 : 0 ≤ count1) (n2 : 0 ≤ left4) (n3 : count1 + left4 ≤ 21) (HKF : Hid (Kin ⟨M, T, f, funcs, count0, left0, P, S0, Q0, R0, pl, pc, sl0, sc0, ql0, qc0, rl0, rc0, A, len, cap⟩ ⟨M, T, f, funcs, count1, left4, P, S1, Q1, R1, pl, pc, sl1, sc1, ql1, qc1, rl1, rc1, A, len, cap⟩)) (HM4 : Hid (Mks lo B ⟨M, T, f, funcs, count1, left4, P, S1, Q1, R1, pl, pc, sl1, sc1, ql1, qc1, rl1, rc1, A, len, cap⟩ w [] w4)) (HS4 : Hid (StsAt w4 w.heap.size (d + 1) Ar l c ns)) {x3 x4 x5 x6 x10 x11 x12 x13 x14 x15 x16 x17 x18 x19 x20 x21 x22 x23 x24 x25 x26 x27 x28 x29 x30 x31 x32 x33 x34 x35 x36 x37 x38 x39 x40 x41 x42 x43 x44 x45 x46 x47 x48 x49 x50 x51 x52 x53 x54 x55 x56 x57 x58 x59 x60 x61 x62 x63 x64 x65 x66 x67 x68 x69 x70 x71 x72 x73 x74 x75 x76 x77 x78 x79 x80 x81 x82 x83 x84 x85 x86 x87 x88 x89 x90 x91 x92 x93 x94 x95 x96 x97 x98 x99 x100 x101 x102 x103 x104 x105 x106 x107 x108 x109 x110 x111 x112 x113 x114 x115 x116 x117 x118 x119 x120 x121 x122 x123 x124 x125 x126 x127 x128 x129 x130 x131 x132 x133 x134 x135 x136 x137 x138 x139 x140 x141 x142 x143 x144 x145 x146 x147 x148 x149 x150 x151 x152 x153 x154 x155 x156 x157 x158 x159 x160 x161 x162 x163 x164 x165 x166 x167 x168 x169 x170 x171 x172 x173 x174 x175 x176 x177 x178 x179 x180 x181 x182 x183 x184 x185 x186 x187 x188 x189 x190 x191 x192 x193 x194 x195 x196 x197 x198 x199 x200 x201 x202 x203 x204 x205 x206 x207 x208 x209 x210 x211 x212 x213 x214 x215 x216 x217 x218 x219 x220 x221 x222 x223 x224 x225 x226 x227 x228 x229 x230 x231 x232 x233 x234 x235 x236 x237 x238 x239 x240 x241 x242 x243 x244 x245 x246 x247 x248 x249 x250 x251 x252 x253 x254 x255 x256 x257 x258 : Value} (R : Exit → Act → World → Prop) (hR : ∀ a' w', SwEnd lo B w M nest most k l d left0 count0 ⟨M, T, f, funcs, count0, left0, P, S0, Q0, R0, pl, pc, sl0, sc0, ql0, qc0, rl0, rc0, A, len, cap⟩ x3 x4 x5 x6 x258 a' w' → R .normal a' w') (hcase : (r = 9 ∧ ¬ nest < 4)) : Code.wp Tryd.prog swBlock R ⟨#[.pointer (some ⟨M, 0, none⟩), .int .i64 nest, .int .i64 most, x3, x4, x5, x6, .slice Ar l c, .int .i64 k, .int .i64 r, x10, x11, x12, x13, x14, x15, x16, x17, x18, x19, x20, x21, x22, x23, x24, x25, x26, x27, x28, x29, x30, x31, x32, x33, x34, x35, x36, x37, x38, x39, x40, x41, x42, x43, x44, x45, x46, x47, x48, x49, x50, x51, x52, x53, x54, x55, x56, x57, x58, x59, x60, x61, x62, x63, x64, x65, x66, x67, x68, x69, x70, x71, x72, x73, x74, x75, x76, x77, x78, x79, x80, x81, x82, x83, x84, x85, x86, x87, x88, x89, x90, x91, x92, x93, x94, x95, x96, x97, x98, x99, x100, x101, x102, x103, x104, x105, x106, x107, x108, x109, x110, x111, x112, x113, x114, x115, x116, x117, x118, x119, x120, x121, x122, x123, x124, x125, x126, x127, x128, x129, x130, x131, x132, x133, x134, x135, x136, x137, x138, x139, x140, x141, x142, x143, x144, x145, x146, x147, x148, x149, x150, x151, x152, x153, x154, x155, x156, x157, x158, x159, x160, x161, x162, x163, x164, x165, x166, x167, x168, x169, x170, x171, x172, x173, x174, x175, x176, x177, x178, x179, x180, x181, x182, x183, x184, x185, x186, x187, x188, x189, x190, x191, x192, x193, x194, x195, x196, x197, x198, x199, x200, x201, x202, x203, x204, x205, x206, x207, x208, x209, x210, x211, x212, x213, x214, x215, x216, x217, x218, x219, x220, x221, x222, x223, x224, x225, x226, x227, x228, x229, x230, x231, x232, x233, x234, x235, x236, x237, x238, x239, x240, x241, x242, x243, x244, x245, x246, x247, x248, x249, x250, x251, x252, x253, x254, x255, x256, x257, x258], []⟩ w4 := by
 have HR := Lib.hid hR
 clear hR
 have HX4 := Lib.hid (KeptX.id w4)
 have hww := hz4
 have hz4 : w4.heap.size ≤ w4.heap.size := Nat.le_refl _
 have hk : k ≤ most := by omega
 have e0 := HM4.out.cx.maker.cell 0 (.pointer (some ⟨T, 0, none⟩)) rfl
 have e7 := HM4.out.cx.maker.cell 7 (.int .i64 count1) rfl
 dsimp only at e0 e7
 obtain ⟨_, _, _, n4, n5, n6, n7, n8, n9⟩ := HM4.out.cx.num
 dsimp only at n4 n5 n6 n7 n8 n9
 obtain ⟨rfl, hlt4⟩ := hcase
 simp only [swBlock, cFst, cSnd, cIn, Tryd.f26, Option.getD]
 go_wp2_with fail
 obtain ⟨p20, ht20⟩ := HM4.out.cx.tape
 refine (next_any w4 T A len cap p20 ht20 8 (by omega) (by omega)).mono ?_
 rintro e w20 ⟨q, t20, rfl, q0, q1, hm⟩
 have hg := hm.grew
 have hkx := HM4.out.keptX hg
 have HM20 := Lib.hid (HM4.out.grew hg)
 have HX20 := Lib.hid (HX4.out.trans' hkx)
 have hz20 := hg.size
 clear hkx
 clear hg hm ht20
 have hq : q = 0 ∨ q ≠ 0 := by omega
 rcases hq with rfl | hq0
 ·have e0 := HM20.out.cx.maker.cell 0 (.pointer (some ⟨T, 0, none⟩)) rfl
  dsimp only at e0
  go_wp2_with fail
  refine (assign_any B ⟨M, T, f, funcs, count1, left4, P, S1, Q1, R1, pl, pc, sl1, sc1, ql1, qc1, rl1, rc1, A, len, cap⟩ w20 HM20.out.cx).mono ?_
  rintro e w21 ⟨kd, fn, A1a, l1a, c1a, A2a, l2a, c2a, na, nb, rfl, hkd, hfn, hra, hrb, hsm, hc, hw⟩
  have hkx := hw.keptX
  have HM21 := Lib.hid (HM20.out.turned hc hw)
  have HX21 := Lib.hid (HX20.out.trans' hkx)
  have hz21 := hw.size
  clear hkx
  have HEa := Lib.hid hra
  have HEb := Lib.hid hrb
  clear hra hrb hc hw
  unfold asCells
  obtain ⟨w22, hw22⟩ : ∃ W, Hid (w21.alloc (.cells (#[.int .i64 (kd : Int), .int .i64 0, .int .i64 0, .string ⟨#[]⟩, .string ⟨#[]⟩, .int .i64 0, .int .i64 0, .slice A1a l1a c1a, .string fn, .int .i64 0, .slice A2a l2a c2a, .slice none 0 0, .slice none 0 0]) 75) = W) := ⟨_, Lib.hid rfl⟩
  have hb : Below w21.heap.size w21 w22 := by rw [← hw22.out]; exact (Below.refl _ _).alloc (Nat.le_refl _) _
  have HY22 : Hid (w22.heap[w21.heap.size]? = some (.cells (asCells kd fn A1a l1a c1a A2a l2a c2a) 75 (0, 0))) := Lib.hid (by rw [← hw22.out]; exact Array.getElem?_push_size)
  have hkx := KeptX.below hb
  have HM22 := Lib.hid (HM21.out.below hb)
  have HX22 := Lib.hid (HX21.out.trans' hkx)
  have HEa22 := Lib.hid (HEa.out.keep hkx.e)
  have HEb22 := Lib.hid (HEb.out.keep hkx.e)
  have hz22 := hb.size
  clear hkx
  clear hb
  have HSF := Lib.hid (HS4.out.kept HX22.out)
  have hST : StIn w22 (fun b => w.heap.size ≤ b ∧ some b ≠ blk Ar) (d + 1) (.agg (asCells kd fn A1a l1a c1a A2a l2a c2a)) (1 + na.sum + nb.sum) := stIn_plain hkd hfn HEa22.out HEb22.out rfl rfl _ d
  have HST := Lib.hid hST
  have hwf : w.heap.size ≤ w22.heap.size := HM22.out.went.size
  clear hST
  go_wp2_with (at_builtin; rw [hw22.out]; refine wpList_plain rfl (fun K hK => ?_); refine wp_append_one _ _ rfl w.heap.size (w21.heap.size) (d + 1) l c 1 (1 + na.sum + nb.sum) Ar ns (asCells kd fn A1a l1a c1a A2a l2a c2a) rfl HSF.out rfl HY22.out rfl (asCells_one _ _ _ _ _ _ _ _) HST.out (by omega) hwf ?_; intro A3 c3 w23 hgrow hplace hst7; have HMF := Lib.hid (HM22.out.rows HSF.out (Nat.le_refl _) (fun p hp => absurd hp (by simp)) hgrow); have HSL := Lib.hid hst7; clear hgrow hplace hst7; refine hK _ _ ?_)
  refine HR.out _ _ ?_
  exact ⟨_, _, _, _, _, _, _, _, _, _, _, _, _, _, _, _, _, _, _, _, _, _, _, _, _, _, _, _, _, _, _, _, _, _, _, _, _, _, _, _, _, _, _, _, _, _, _, _, _, _, _, _, _, _, _, _, _, _, _, _, _, _, _, _, _, _, _, _, _, _, _, _, _, _, _, _, _, _, _, _, _, _, _, _, _, _, _, _, _, _, _, _, _, _, _, _, _, _, _, _, _, _, _, _, _, _, _, _, _, _, _, _, _, _, _, _, _, _, _, _, _, _, _, _, _, _, _, _, _, _, _, _, _, _, _, _, _, _, _, _, _, _, _, _, _, _, _, _, _, _, _, _, _, _, _, _, _, _, _, _, _, _, _, _, _, _, _, _, _, _, _, _, _, _, _, _, _, _, _, _, _, _, _, _, _, _, _, _, _, _, _, _, _, _, _, _, _, _, _, _, _, _, _, _, _, _, _, _, _, _, _, _, _, _, _, _, _, _, _, _, _, _, _, _, _, _, _, _, _, _, _, _, _, _, _, _, _, _, _, _, _, _, _, _, _, _, _, _, _, l + 1, c3, A3, ns ++ [1 + na.sum + nb.sum], _, rfl, by omega, HSL.out, HKF.out, by dsimp only; omega, by dsimp only; omega, by rw [List.sum_append]; simp only [List.sum_cons, List.sum_nil]; (try dsimp only); omega, HMF.out⟩
 ·have e0 := HM20.out.cx.maker.cell 0 (.pointer (some ⟨T, 0, none⟩)) rfl
  dsimp only at e0
  go_wp2_with fail
  refine (assign_any B ⟨M, T, f, funcs, count1, left4, P, S1, Q1, R1, pl, pc, sl1, sc1, ql1, qc1, rl1, rc1, A, len, cap⟩ w20 HM20.out.cx).mono ?_
  rintro e w24 ⟨kd, fn, A1a, l1a, c1a, A2a, l2a, c2a, na, nb, rfl, hkd, hfn, hra, hrb, hsm, hc, hw⟩
  have hkx := hw.keptX
  have HM24 := Lib.hid (HM20.out.turned hc hw)
  have HX24 := Lib.hid (HX20.out.trans' hkx)
  have hz24 := hw.size
  clear hkx
  have HEa := Lib.hid hra
  have HEb := Lib.hid hrb
  clear hra hrb hc hw
  unfold asCells
  obtain ⟨w25, hw25⟩ : ∃ W, Hid (w24.alloc (.cells (#[.int .i64 (kd : Int), .int .i64 0, .int .i64 0, .string ⟨#[]⟩, .string ⟨#[]⟩, .int .i64 0, .int .i64 0, .slice A1a l1a c1a, .string fn, .int .i64 0, .slice A2a l2a c2a, .slice none 0 0, .slice none 0 0]) 75) = W) := ⟨_, Lib.hid rfl⟩
  have hb : Below w24.heap.size w24 w25 := by rw [← hw25.out]; exact (Below.refl _ _).alloc (Nat.le_refl _) _
  have HY25 : Hid (w25.heap[w24.heap.size]? = some (.cells (asCells kd fn A1a l1a c1a A2a l2a c2a) 75 (0, 0))) := Lib.hid (by rw [← hw25.out]; exact Array.getElem?_push_size)
  have hkx := KeptX.below hb
  have HM25 := Lib.hid (HM24.out.below hb)
  have HX25 := Lib.hid (HX24.out.trans' hkx)
  have HEa25 := Lib.hid (HEa.out.keep hkx.e)
  have HEb25 := Lib.hid (HEb.out.keep hkx.e)
  have hz25 := hb.size
  clear hkx
  clear hb
  have HSF := Lib.hid (HS4.out.kept HX25.out)
  have hST : StIn w25 (fun b => w.heap.size ≤ b ∧ some b ≠ blk Ar) (d + 1) (.agg (asCells kd fn A1a l1a c1a A2a l2a c2a)) (1 + na.sum + nb.sum) := stIn_plain hkd hfn HEa25.out HEb25.out rfl rfl _ d
  have HST := Lib.hid hST
  have hwf : w.heap.size ≤ w25.heap.size := HM25.out.went.size
  clear hST
  go_wp2_with (at_builtin; rw [hw25.out]; refine wpList_plain rfl (fun K hK => ?_); refine wp_append_one _ _ rfl w.heap.size (w24.heap.size) (d + 1) l c 1 (1 + na.sum + nb.sum) Ar ns (asCells kd fn A1a l1a c1a A2a l2a c2a) rfl HSF.out rfl HY25.out rfl (asCells_one _ _ _ _ _ _ _ _) HST.out (by omega) hwf ?_; intro A3 c3 w26 hgrow hplace hst7; have HMF := Lib.hid (HM25.out.rows HSF.out (Nat.le_refl _) (fun p hp => absurd hp (by simp)) hgrow); have HSL := Lib.hid hst7; clear hgrow hplace hst7; refine hK _ _ ?_)
  refine HR.out _ _ ?_
  exact ⟨_, _, _, _, _, _, _, _, _, _, _, _, _, _, _, _, _, _, _, _, _, _, _, _, _, _, _, _, _, _, _, _, _, _, _, _, _, _, _, _, _, _, _, _, _, _, _, _, _, _, _, _, _, _, _, _, _, _, _, _, _, _, _, _, _, _, _, _, _, _, _, _, _, _, _, _, _, _, _, _, _, _, _, _, _, _, _, _, _, _, _, _, _, _, _, _, _, _, _, _, _, _, _, _, _, _, _, _, _, _, _, _, _, _, _, _, _, _, _, _, _, _, _, _, _, _, _, _, _, _, _, _, _, _, _, _, _, _, _, _, _, _, _, _, _, _, _, _, _, _, _, _, _, _, _, _, _, _, _, _, _, _, _, _, _, _, _, _, _, _, _, _, _, _, _, _, _, _, _, _, _, _, _, _, _, _, _, _, _, _, _, _, _, _, _, _, _, _, _, _, _, _, _, _, _, _, _, _, _, _, _, _, _, _, _, _, _, _, _, _, _, _, _, _, _, _, _, _, _, _, _, _, _, _, _, _, _, _, _, _, _, _, _, _, _, _, _, _, _, l + 1, c3, A3, ns ++ [1 + na.sum + nb.sum], _, rfl, by omega, HSL.out, HKF.out, by dsimp only; omega, by dsimp only; omega, by rw [List.sum_append]; simp only [List.sum_cons, List.sum_nil]; (try dsimp only); omega, HMF.out⟩
end Go.Proofs.YtchibamdkaejdaaDoor
namespace Go.Proofs.YtchibamdkaejdaaDoor
open Go.RowKit
variable {lo : Nat}

set_option linter.unusedSimpArgs false in
set_option linter.unusedVariables false in
set_option maxHeartbeats 0 in
set_option maxRecDepth 100000 in
theorem sw_decl (B : Nat) (nest d : Nat) (w w4 : World) (most k l c : Nat) (M T : Nat) (f funcs count0 left0 count1 left1 left4 r : Int) (P S0 Q0 R0 S1 Q1 R1 Ar : Option Addr) (pl pc sl0 sc0 ql0 qc0 rl0 rc0 sl1 sc1 ql1 qc1 rl1 rc1 : Nat) (A : Option Addr) (len cap : Nat) (ns : List Nat) (hnest : nest ≤ 4) (HIH : Hid (nest < 4 → BodyAt (nest + 1) d)) (HIL : Hid (nest < 4 → LoopAt nest d)) (H0 : Hid (M < w.heap.size)) (hmost : most ≤ 10) (hlt : k < most) (hl : l ≤ 2 * k) (hz4 : w.heap.size ≤ w4.heap.size) (hr0 : 0 ≤ r) (hr1 : r < 16) (hleft : left1 ≤ left0) (hcl : count1 + left1 ≤ count0 + left0) (hsum : (ns.sum : Int) ≤ 100 * (left0 - left1)) (hleft4 : left1 = left4 + 1) (n1 : 0 ≤ count1) (n2 : 0 ≤ left4) (n3 : count1 + left4 ≤ 21) (HKF : Hid (Kin ⟨M, T, f, funcs, count0, left0, P, S0, Q0, R0, pl, pc, sl0, sc0, ql0, qc0, rl0, rc0, A, len, cap⟩ ⟨M, T, f, funcs, count1, left4, P, S1, Q1, R1, pl, pc, sl1, sc1, ql1, qc1, rl1, rc1, A, len, cap⟩)) (HM4 : Hid (Mks lo B ⟨M, T, f, funcs, count1, left4, P, S1, Q1, R1, pl, pc, sl1, sc1, ql1, qc1, rl1, rc1, A, len, cap⟩ w [] w4)) (HS4 : Hid (StsAt w4 w.heap.size (d + 1) Ar l c ns)) {x3 x4 x5 x6 x10 x11 x12 x13 x14 x15 x16 x17 x18 x19 x20 x21 x22 x23 x24 x25 x26 x27 x28 x29 x30 x31 x32 x33 x34 x35 x36 x37 x38 x39 x40 x41 x42 x43 x44 x45 x46 x47 x48 x49 x50 x51 x52 x53 x54 x55 x56 x57 x58 x59 x60 x61 x62 x63 x64 x65 x66 x67 x68 x69 x70 x71 x72 x73 x74 x75 x76 x77 x78 x79 x80 x81 x82 x83 x84 x85 x86 x87 x88 x89 x90 x91 x92 x93 x94 x95 x96 x97 x98 x99 x100 x101 x102 x103 x104 x105 x106 x107 x108 x109 x110 x111 x112 x113 x114 x115 x116 x117 x118 x119 x120 x121 x122 x123 x124 x125 x126 x127 x128 x129 x130 x131 x132 x133 x134 x135 x136 x137 x138 x139 x140 x141 x142 x143 x144 x145 x146 x147 x148 x149 x150 x151 x152 x153 x154 x155 x156 x157 x158 x159 x160 x161 x162 x163 x164 x165 x166 x167 x168 x169 x170 x171 x172 x173 x174 x175 x176 x177 x178 x179 x180 x181 x182 x183 x184 x185 x186 x187 x188 x189 x190 x191 x192 x193 x194 x195 x196 x197 x198 x199 x200 x201 x202 x203 x204 x205 x206 x207 x208 x209 x210 x211 x212 x213 x214 x215 x216 x217 x218 x219 x220 x221 x222 x223 x224 x225 x226 x227 x228 x229 x230 x231 x232 x233 x234 x235 x236 x237 x238 x239 x240 x241 x242 x243 x244 x245 x246 x247 x248 x249 x250 x251 x252 x253 x254 x255 x256 x257 x258 : Value} (R : Exit → Act → World → Prop) (hR : ∀ a' w', SwEnd lo B w M nest most k l d left0 count0 ⟨M, T, f, funcs, count0, left0, P, S0, Q0, R0, pl, pc, sl0, sc0, ql0, qc0, rl0, rc0, A, len, cap⟩ x3 x4 x5 x6 x258 a' w' → R .normal a' w') (hcase : (r < 3 ∧ count1 < 14)) : Code.wp Tryd.prog swBlock R ⟨#[.pointer (some ⟨M, 0, none⟩), .int .i64 nest, .int .i64 most, x3, x4, x5, x6, .slice Ar l c, .int .i64 k, .int .i64 r, x10, x11, x12, x13, x14, x15, x16, x17, x18, x19, x20, x21, x22, x23, x24, x25, x26, x27, x28, x29, x30, x31, x32, x33, x34, x35, x36, x37, x38, x39, x40, x41, x42, x43, x44, x45, x46, x47, x48, x49, x50, x51, x52, x53, x54, x55, x56, x57, x58, x59, x60, x61, x62, x63, x64, x65, x66, x67, x68, x69, x70, x71, x72, x73, x74, x75, x76, x77, x78, x79, x80, x81, x82, x83, x84, x85, x86, x87, x88, x89, x90, x91, x92, x93, x94, x95, x96, x97, x98, x99, x100, x101, x102, x103, x104, x105, x106, x107, x108, x109, x110, x111, x112, x113, x114, x115, x116, x117, x118, x119, x120, x121, x122, x123, x124, x125, x126, x127, x128, x129, x130, x131, x132, x133, x134, x135, x136, x137, x138, x139, x140, x141, x142, x143, x144, x145, x146, x147, x148, x149, x150, x151, x152, x153, x154, x155, x156, x157, x158, x159, x160, x161, x162, x163, x164, x165, x166, x167, x168, x169, x170, x171, x172, x173, x174, x175, x176, x177, x178, x179, x180, x181, x182, x183, x184, x185, x186, x187, x188, x189, x190, x191, x192, x193, x194, x195, x196, x197, x198, x199, x200, x201, x202, x203, x204, x205, x206, x207, x208, x209, x210, x211, x212, x213, x214, x215, x216, x217, x218, x219, x220, x221, x222, x223, x224, x225, x226, x227, x228, x229, x230, x231, x232, x233, x234, x235, x236, x237, x238, x239, x240, x241, x242, x243, x244, x245, x246, x247, x248, x249, x250, x251, x252, x253, x254, x255, x256, x257, x258], []⟩ w4 := by
 have HR := Lib.hid hR
 clear hR
 have HX4 := Lib.hid (KeptX.id w4)
 have hww := hz4
 have hz4 : w4.heap.size ≤ w4.heap.size := Nat.le_refl _
 have hk : k ≤ most := by omega
 have e0 := HM4.out.cx.maker.cell 0 (.pointer (some ⟨T, 0, none⟩)) rfl
 have e7 := HM4.out.cx.maker.cell 7 (.int .i64 count1) rfl
 dsimp only at e0 e7
 obtain ⟨_, _, _, n4, n5, n6, n7, n8, n9⟩ := HM4.out.cx.num
 dsimp only at n4 n5 n6 n7 n8 n9
 obtain ⟨hr, hct⟩ := hcase
 simp only [swBlock, cFst, cSnd, cIn, Tryd.f26, Option.getD]
 go_wp2_with fail
 refine (declare_any B ⟨M, T, f, funcs, count1, left4, P, S1, Q1, R1, pl, pc, sl1, sc1, ql1, qc1, rl1, rc1, A, len, cap⟩ w4 HM4.out.cx (by dsimp only; omega)).mono ?_
 rintro e w11 ⟨nm, ty, ln, m11, rfl, hnm, hty, hln, hkin, hct, hlf, hc, hw⟩
 obtain ⟨M11, T11, f11, funcs11, count11, left11, P11, S11, Q11, R11, pl11, pc11, sl11, sc11, ql11, qc11, rl11, rc11, A11, len11, cap11⟩ := m11
 have hk11 := hkin
 obtain ⟨z1, z2, z3, z4, z5, z6, z7, z8, z9, z10⟩ := hk11.lets
 dsimp only at z1 z2 z3 z4 z5 z6 z7 z8 z9 z10
 subst z1 z2 z3 z4 z5 z6 z7 z8 z9 z10
 dsimp only at hct hlf
 have HKF := Lib.hid (HKF.out.trans hk11)
 clear hk11
 have hkx := hw.keptX
 have HM11 := Lib.hid (HM4.out.turned hc hw)
 have HX11 := Lib.hid (HX4.out.trans' hkx)
 have hz11 := hw.size
 clear hkx
 clear hkin hc hw
 unfold declCells
 obtain ⟨w12, hw12⟩ : ∃ W, Hid (w11.alloc (.cells (#[.int .i64 1, .int .i64 0, .int .i64 0, .string nm, .string ty, .int .i64 (ln : Int), .int .i64 0, .slice none 0 0, .string ⟨#[]⟩, .int .i64 0, .slice none 0 0, .slice none 0 0, .slice none 0 0]) 75) = W) := ⟨_, Lib.hid rfl⟩
 have hb : Below w11.heap.size w11 w12 := by rw [← hw12.out]; exact (Below.refl _ _).alloc (Nat.le_refl _) _
 have HY12 : Hid (w12.heap[w11.heap.size]? = some (.cells (declCells nm ty ln) 75 (0, 0))) := Lib.hid (by rw [← hw12.out]; exact Array.getElem?_push_size)
 have hkx := KeptX.below hb
 have HM12 := Lib.hid (HM11.out.below hb)
 have HX12 := Lib.hid (HX11.out.trans' hkx)
 have hz12 := hb.size
 clear hkx
 clear hb
 have HSF := Lib.hid (HS4.out.kept HX12.out)
 have hST : StIn w12 (fun b => w.heap.size ≤ b ∧ some b ≠ blk Ar) (d + 1) (.agg (declCells nm ty ln)) (1) := stIn_decl _ _ d nm ty ln hnm hty hln
 have HST := Lib.hid hST
 have hwf : w.heap.size ≤ w12.heap.size := HM12.out.went.size
 clear hST
 go_wp2_with (at_builtin; rw [hw12.out]; refine wpList_plain rfl (fun K hK => ?_); refine wp_append_one _ _ rfl w.heap.size (w11.heap.size) (d + 1) l c 1 (1) Ar ns (declCells nm ty ln) rfl HSF.out rfl HY12.out rfl (declCells_one _ _ _) HST.out (by omega) hwf ?_; intro A3 c3 w13 hgrow hplace hst7; have HMF := Lib.hid (HM12.out.rows HSF.out (Nat.le_refl _) (fun p hp => absurd hp (by simp)) hgrow); have HSL := Lib.hid hst7; clear hgrow hplace hst7; refine hK _ _ ?_)
 refine HR.out _ _ ?_
 exact ⟨_, _, _, _, _, _, _, _, _, _, _, _, _, _, _, _, _, _, _, _, _, _, _, _, _, _, _, _, _, _, _, _, _, _, _, _, _, _, _, _, _, _, _, _, _, _, _, _, _, _, _, _, _, _, _, _, _, _, _, _, _, _, _, _, _, _, _, _, _, _, _, _, _, _, _, _, _, _, _, _, _, _, _, _, _, _, _, _, _, _, _, _, _, _, _, _, _, _, _, _, _, _, _, _, _, _, _, _, _, _, _, _, _, _, _, _, _, _, _, _, _, _, _, _, _, _, _, _, _, _, _, _, _, _, _, _, _, _, _, _, _, _, _, _, _, _, _, _, _, _, _, _, _, _, _, _, _, _, _, _, _, _, _, _, _, _, _, _, _, _, _, _, _, _, _, _, _, _, _, _, _, _, _, _, _, _, _, _, _, _, _, _, _, _, _, _, _, _, _, _, _, _, _, _, _, _, _, _, _, _, _, _, _, _, _, _, _, _, _, _, _, _, _, _, _, _, _, _, _, _, _, _, _, _, _, _, _, _, _, _, _, _, _, _, _, _, _, _, _, l + 1, c3, A3, ns ++ [1], _, rfl, by omega, HSL.out, HKF.out, by dsimp only; omega, by dsimp only; omega, by rw [List.sum_append]; simp only [List.sum_cons, List.sum_nil]; (try dsimp only); omega, HMF.out⟩
set_option linter.unusedSimpArgs false in
set_option linter.unusedVariables false in
set_option maxHeartbeats 0 in
set_option maxRecDepth 100000 in
theorem sw_print (B : Nat) (nest d : Nat) (w w4 : World) (most k l c : Nat) (M T : Nat) (f funcs count0 left0 count1 left1 left4 r : Int) (P S0 Q0 R0 S1 Q1 R1 Ar : Option Addr) (pl pc sl0 sc0 ql0 qc0 rl0 rc0 sl1 sc1 ql1 qc1 rl1 rc1 : Nat) (A : Option Addr) (len cap : Nat) (ns : List Nat) (hnest : nest ≤ 4) (HIH : Hid (nest < 4 → BodyAt (nest + 1) d)) (HIL : Hid (nest < 4 → LoopAt nest d)) (H0 : Hid (M < w.heap.size)) (hmost : most ≤ 10) (hlt : k < most) (hl : l ≤ 2 * k) (hz4 : w.heap.size ≤ w4.heap.size) (hr0 : 0 ≤ r) (hr1 : r < 16) (hleft : left1 ≤ left0) (hcl : count1 + left1 ≤ count0 + left0) (hsum : (ns.sum : Int) ≤ 100 * (left0 - left1)) (hleft4 : left1 = left4 + 1) (n1 : 0 ≤ count1) (n2 : 0 ≤ left4) (n3 : count1 + left4 ≤ 21) (HKF : Hid (Kin ⟨M, T, f, funcs, count0, left0, P, S0, Q0, R0, pl, pc, sl0, sc0, ql0, qc0, rl0, rc0, A, len, cap⟩ ⟨M, T, f, funcs, count1, left4, P, S1, Q1, R1, pl, pc, sl1, sc1, ql1, qc1, rl1, rc1, A, len, cap⟩)) (HM4 : Hid (Mks lo B ⟨M, T, f, funcs, count1, left4, P, S1, Q1, R1, pl, pc, sl1, sc1, ql1, qc1, rl1, rc1, A, len, cap⟩ w [] w4)) (HS4 : Hid (StsAt w4 w.heap.size (d + 1) Ar l c ns)) {x3 x4 x5 x6 x10 x11 x12 x13 x14 x15 x16 x17 x18 x19 x20 x21 x22 x23 x24 x25 x26 x27 x28 x29 x30 x31 x32 x33 x34 x35 x36 x37 x38 x39 x40 x41 x42 x43 x44 x45 x46 x47 x48 x49 x50 x51 x52 x53 x54 x55 x56 x57 x58 x59 x60 x61 x62 x63 x64 x65 x66 x67 x68 x69 x70 x71 x72 x73 x74 x75 x76 x77 x78 x79 x80 x81 x82 x83 x84 x85 x86 x87 x88 x89 x90 x91 x92 x93 x94 x95 x96 x97 x98 x99 x100 x101 x102 x103 x104 x105 x106 x107 x108 x109 x110 x111 x112 x113 x114 x115 x116 x117 x118 x119 x120 x121 x122 x123 x124 x125 x126 x127 x128 x129 x130 x131 x132 x133 x134 x135 x136 x137 x138 x139 x140 x141 x142 x143 x144 x145 x146 x147 x148 x149 x150 x151 x152 x153 x154 x155 x156 x157 x158 x159 x160 x161 x162 x163 x164 x165 x166 x167 x168 x169 x170 x171 x172 x173 x174 x175 x176 x177 x178 x179 x180 x181 x182 x183 x184 x185 x186 x187 x188 x189 x190 x191 x192 x193 x194 x195 x196 x197 x198 x199 x200 x201 x202 x203 x204 x205 x206 x207 x208 x209 x210 x211 x212 x213 x214 x215 x216 x217 x218 x219 x220 x221 x222 x223 x224 x225 x226 x227 x228 x229 x230 x231 x232 x233 x234 x235 x236 x237 x238 x239 x240 x241 x242 x243 x244 x245 x246 x247 x248 x249 x250 x251 x252 x253 x254 x255 x256 x257 x258 : Value} (R : Exit → Act → World → Prop) (hR : ∀ a' w', SwEnd lo B w M nest most k l d left0 count0 ⟨M, T, f, funcs, count0, left0, P, S0, Q0, R0, pl, pc, sl0, sc0, ql0, qc0, rl0, rc0, A, len, cap⟩ x3 x4 x5 x6 x258 a' w' → R .normal a' w') (hcase : (r = 6)) : Code.wp Tryd.prog swBlock R ⟨#[.pointer (some ⟨M, 0, none⟩), .int .i64 nest, .int .i64 most, x3, x4, x5, x6, .slice Ar l c, .int .i64 k, .int .i64 r, x10, x11, x12, x13, x14, x15, x16, x17, x18, x19, x20, x21, x22, x23, x24, x25, x26, x27, x28, x29, x30, x31, x32, x33, x34, x35, x36, x37, x38, x39, x40, x41, x42, x43, x44, x45, x46, x47, x48, x49, x50, x51, x52, x53, x54, x55, x56, x57, x58, x59, x60, x61, x62, x63, x64, x65, x66, x67, x68, x69, x70, x71, x72, x73, x74, x75, x76, x77, x78, x79, x80, x81, x82, x83, x84, x85, x86, x87, x88, x89, x90, x91, x92, x93, x94, x95, x96, x97, x98, x99, x100, x101, x102, x103, x104, x105, x106, x107, x108, x109, x110, x111, x112, x113, x114, x115, x116, x117, x118, x119, x120, x121, x122, x123, x124, x125, x126, x127, x128, x129, x130, x131, x132, x133, x134, x135, x136, x137, x138, x139, x140, x141, x142, x143, x144, x145, x146, x147, x148, x149, x150, x151, x152, x153, x154, x155, x156, x157, x158, x159, x160, x161, x162, x163, x164, x165, x166, x167, x168, x169, x170, x171, x172, x173, x174, x175, x176, x177, x178, x179, x180, x181, x182, x183, x184, x185, x186, x187, x188, x189, x190, x191, x192, x193, x194, x195, x196, x197, x198, x199, x200, x201, x202, x203, x204, x205, x206, x207, x208, x209, x210, x211, x212, x213, x214, x215, x216, x217, x218, x219, x220, x221, x222, x223, x224, x225, x226, x227, x228, x229, x230, x231, x232, x233, x234, x235, x236, x237, x238, x239, x240, x241, x242, x243, x244, x245, x246, x247, x248, x249, x250, x251, x252, x253, x254, x255, x256, x257, x258], []⟩ w4 := by
 have HR := Lib.hid hR
 clear hR
 have HX4 := Lib.hid (KeptX.id w4)
 have hww := hz4
 have hz4 : w4.heap.size ≤ w4.heap.size := Nat.le_refl _
 have hk : k ≤ most := by omega
 have e0 := HM4.out.cx.maker.cell 0 (.pointer (some ⟨T, 0, none⟩)) rfl
 have e7 := HM4.out.cx.maker.cell 7 (.int .i64 count1) rfl
 dsimp only at e0 e7
 obtain ⟨_, _, _, n4, n5, n6, n7, n8, n9⟩ := HM4.out.cx.num
 dsimp only at n4 n5 n6 n7 n8 n9
 subst hcase
 simp only [swBlock, cFst, cSnd, cIn, Tryd.f26, Option.getD]
 go_wp2_with fail
 refine (expr_any ⟨M, T, f, funcs, count1, left4, P, S1, Q1, R1, pl, pc, sl1, sc1, ql1, qc1, rl1, rc1, A, len, cap⟩ w4 0 (by omega) HM4.out.cx.ctx).mono ?_
 rintro e w14 ⟨v, n14, rfl, hex, hn14, hg⟩
 obtain ⟨op1, num, vr, nm1, fld, A', len', cap', rfl⟩ := hex.shape
 dsimp only at hg
 have hkx := HM4.out.keptX hg
 have HM14 := Lib.hid (HM4.out.grew hg)
 have HX14 := Lib.hid (HX4.out.trans' hkx)
 have hz14 := hg.size
 clear hkx
 clear hg
 obtain ⟨w15, hw15⟩ : ∃ W, Hid (w14.alloc (.cells #[.int .i64 op1, .int .i64 num, .int .i64 vr, .string nm1, .string fld, .slice A' len' cap'] 72) = W) := ⟨_, Lib.hid rfl⟩
 have hb : Below w14.heap.size w14 w15 := by rw [← hw15.out]; exact (Below.refl _ _).alloc (Nat.le_refl _) _
 have hrow := row_made hex
 rw [hw15.out] at hrow
 have hkx := KeptX.below hb
 have HM15 := Lib.hid (HM14.out.below hb)
 have HX15 := Lib.hid (HX14.out.trans' hkx)
 have hz15 := hb.size
 clear hkx
 have HEa15 : Hid (ExRow w15 (some ⟨w14.heap.size, 0, none⟩) 1 1 [n14]) := Lib.hid hrow
 have hq15 : w15.heap.size = w14.heap.size + 1 := by rw [← hw15.out]; exact Array.size_push _
 have HQ15 := Lib.hid hq15
 clear hrow hex hb hq15
 obtain ⟨w16, hw16⟩ : ∃ W, Hid (w15.alloc (.cells (#[.int .i64 9, .int .i64 0, .int .i64 0, .string ⟨#[]⟩, .string ⟨#[]⟩, .int .i64 0, .int .i64 0, .slice none 0 0, .string ⟨#[]⟩, .int .i64 0, .slice (some ⟨w14.heap.size, 0, none⟩) 1 1, .slice none 0 0, .slice none 0 0]) 75) = W) := ⟨_, Lib.hid rfl⟩
 have hb : Below w15.heap.size w15 w16 := by rw [← hw16.out]; exact (Below.refl _ _).alloc (Nat.le_refl _) _
 have HY16 : Hid (w16.heap[w14.heap.size + 1]? = some (.cells (asCells 9 ⟨#[]⟩ none 0 0 (some ⟨w14.heap.size, 0, none⟩) 1 1) 75 (0, 0))) := Lib.hid (by rw [← HQ15.out]; rw [← hw16.out]; exact Array.getElem?_push_size)
 have hkx := KeptX.below hb
 have HM16 := Lib.hid (HM15.out.below hb)
 have HX16 := Lib.hid (HX15.out.trans' hkx)
 have HEa16 := Lib.hid (HEa15.out.keep hkx.e)
 have hz16 := hb.size
 clear hkx
 clear hb
 have HSF := Lib.hid (HS4.out.kept HX16.out)
 have hST : StIn w16 (fun b => w.heap.size ≤ b ∧ some b ≠ blk Ar) (d + 1) (.agg (asCells 9 ⟨#[]⟩ none 0 0 (some ⟨w14.heap.size, 0, none⟩) 1 1)) (1 + 0 + n14) := stIn_plain (kind := 9) ⟨by omega, by omega, .inl rfl⟩ (by decide) (ExRow.nil _) HEa16.out rfl (by simp) _ d
 have HST := Lib.hid hST
 have hwf : w.heap.size ≤ w16.heap.size := HM16.out.went.size
 clear hST
 go_wp2_with (at_builtin; rw [hw15.out, hw16.out]; refine wpList_plain rfl (fun K hK => ?_); refine wp_append_one _ _ rfl w.heap.size (w14.heap.size + 1) (d + 1) l c 1 (1 + 0 + n14) Ar ns (asCells 9 ⟨#[]⟩ none 0 0 (some ⟨w14.heap.size, 0, none⟩) 1 1) rfl HSF.out rfl HY16.out rfl (asCells_one _ _ _ _ _ _ _ _) HST.out (by omega) hwf ?_; intro A3 c3 w17 hgrow hplace hst7; have HMF := Lib.hid (HM16.out.rows HSF.out (Nat.le_refl _) (fun p hp => absurd hp (by simp)) hgrow); have HSL := Lib.hid hst7; clear hgrow hplace hst7; refine hK _ _ ?_)
 refine HR.out _ _ ?_
 exact ⟨_, _, _, _, _, _, _, _, _, _, _, _, _, _, _, _, _, _, _, _, _, _, _, _, _, _, _, _, _, _, _, _, _, _, _, _, _, _, _, _, _, _, _, _, _, _, _, _, _, _, _, _, _, _, _, _, _, _, _, _, _, _, _, _, _, _, _, _, _, _, _, _, _, _, _, _, _, _, _, _, _, _, _, _, _, _, _, _, _, _, _, _, _, _, _, _, _, _, _, _, _, _, _, _, _, _, _, _, _, _, _, _, _, _, _, _, _, _, _, _, _, _, _, _, _, _, _, _, _, _, _, _, _, _, _, _, _, _, _, _, _, _, _, _, _, _, _, _, _, _, _, _, _, _, _, _, _, _, _, _, _, _, _, _, _, _, _, _, _, _, _, _, _, _, _, _, _, _, _, _, _, _, _, _, _, _, _, _, _, _, _, _, _, _, _, _, _, _, _, _, _, _, _, _, _, _, _, _, _, _, _, _, _, _, _, _, _, _, _, _, _, _, _, _, _, _, _, _, _, _, _, _, _, _, _, _, _, _, _, _, _, _, _, _, _, _, _, _, _, l + 1, c3, A3, ns ++ [1 + 0 + n14], _, rfl, by omega, HSL.out, HKF.out, by dsimp only; omega, by dsimp only; omega, by rw [List.sum_append]; simp only [List.sum_cons, List.sum_nil]; (try dsimp only); omega, HMF.out⟩
set_option linter.unusedSimpArgs false in
set_option linter.unusedVariables false in
set_option maxHeartbeats 0 in
set_option maxRecDepth 100000 in
theorem sw_throw (B : Nat) (nest d : Nat) (w w4 : World) (most k l c : Nat) (M T : Nat) (f funcs count0 left0 count1 left1 left4 r : Int) (P S0 Q0 R0 S1 Q1 R1 Ar : Option Addr) (pl pc sl0 sc0 ql0 qc0 rl0 rc0 sl1 sc1 ql1 qc1 rl1 rc1 : Nat) (A : Option Addr) (len cap : Nat) (ns : List Nat) (hnest : nest ≤ 4) (HIH : Hid (nest < 4 → BodyAt (nest + 1) d)) (HIL : Hid (nest < 4 → LoopAt nest d)) (H0 : Hid (M < w.heap.size)) (hmost : most ≤ 10) (hlt : k < most) (hl : l ≤ 2 * k) (hz4 : w.heap.size ≤ w4.heap.size) (hr0 : 0 ≤ r) (hr1 : r < 16) (hleft : left1 ≤ left0) (hcl : count1 + left1 ≤ count0 + left0) (hsum : (ns.sum : Int) ≤ 100 * (left0 - left1)) (hleft4 : left1 = left4 + 1) (n1 : 0 ≤ count1) (n2 : 0 ≤ left4) (n3 : count1 + left4 ≤ 21) (HKF : Hid (Kin ⟨M, T, f, funcs, count0, left0, P, S0, Q0, R0, pl, pc, sl0, sc0, ql0, qc0, rl0, rc0, A, len, cap⟩ ⟨M, T, f, funcs, count1, left4, P, S1, Q1, R1, pl, pc, sl1, sc1, ql1, qc1, rl1, rc1, A, len, cap⟩)) (HM4 : Hid (Mks lo B ⟨M, T, f, funcs, count1, left4, P, S1, Q1, R1, pl, pc, sl1, sc1, ql1, qc1, rl1, rc1, A, len, cap⟩ w [] w4)) (HS4 : Hid (StsAt w4 w.heap.size (d + 1) Ar l c ns)) {x3 x4 x5 x6 x10 x11 x12 x13 x14 x15 x16 x17 x18 x19 x20 x21 x22 x23 x24 x25 x26 x27 x28 x29 x30 x31 x32 x33 x34 x35 x36 x37 x38 x39 x40 x41 x42 x43 x44 x45 x46 x47 x48 x49 x50 x51 x52 x53 x54 x55 x56 x57 x58 x59 x60 x61 x62 x63 x64 x65 x66 x67 x68 x69 x70 x71 x72 x73 x74 x75 x76 x77 x78 x79 x80 x81 x82 x83 x84 x85 x86 x87 x88 x89 x90 x91 x92 x93 x94 x95 x96 x97 x98 x99 x100 x101 x102 x103 x104 x105 x106 x107 x108 x109 x110 x111 x112 x113 x114 x115 x116 x117 x118 x119 x120 x121 x122 x123 x124 x125 x126 x127 x128 x129 x130 x131 x132 x133 x134 x135 x136 x137 x138 x139 x140 x141 x142 x143 x144 x145 x146 x147 x148 x149 x150 x151 x152 x153 x154 x155 x156 x157 x158 x159 x160 x161 x162 x163 x164 x165 x166 x167 x168 x169 x170 x171 x172 x173 x174 x175 x176 x177 x178 x179 x180 x181 x182 x183 x184 x185 x186 x187 x188 x189 x190 x191 x192 x193 x194 x195 x196 x197 x198 x199 x200 x201 x202 x203 x204 x205 x206 x207 x208 x209 x210 x211 x212 x213 x214 x215 x216 x217 x218 x219 x220 x221 x222 x223 x224 x225 x226 x227 x228 x229 x230 x231 x232 x233 x234 x235 x236 x237 x238 x239 x240 x241 x242 x243 x244 x245 x246 x247 x248 x249 x250 x251 x252 x253 x254 x255 x256 x257 x258 : Value} (R : Exit → Act → World → Prop) (hR : ∀ a' w', SwEnd lo B w M nest most k l d left0 count0 ⟨M, T, f, funcs, count0, left0, P, S0, Q0, R0, pl, pc, sl0, sc0, ql0, qc0, rl0, rc0, A, len, cap⟩ x3 x4 x5 x6 x258 a' w' → R .normal a' w') (hcase : (r = 8)) : Code.wp Tryd.prog swBlock R ⟨#[.pointer (some ⟨M, 0, none⟩), .int .i64 nest, .int .i64 most, x3, x4, x5, x6, .slice Ar l c, .int .i64 k, .int .i64 r, x10, x11, x12, x13, x14, x15, x16, x17, x18, x19, x20, x21, x22, x23, x24, x25, x26, x27, x28, x29, x30, x31, x32, x33, x34, x35, x36, x37, x38, x39, x40, x41, x42, x43, x44, x45, x46, x47, x48, x49, x50, x51, x52, x53, x54, x55, x56, x57, x58, x59, x60, x61, x62, x63, x64, x65, x66, x67, x68, x69, x70, x71, x72, x73, x74, x75, x76, x77, x78, x79, x80, x81, x82, x83, x84, x85, x86, x87, x88, x89, x90, x91, x92, x93, x94, x95, x96, x97, x98, x99, x100, x101, x102, x103, x104, x105, x106, x107, x108, x109, x110, x111, x112, x113, x114, x115, x116, x117, x118, x119, x120, x121, x122, x123, x124, x125, x126, x127, x128, x129, x130, x131, x132, x133, x134, x135, x136, x137, x138, x139, x140, x141, x142, x143, x144, x145, x146, x147, x148, x149, x150, x151, x152, x153, x154, x155, x156, x157, x158, x159, x160, x161, x162, x163, x164, x165, x166, x167, x168, x169, x170, x171, x172, x173, x174, x175, x176, x177, x178, x179, x180, x181, x182, x183, x184, x185, x186, x187, x188, x189, x190, x191, x192, x193, x194, x195, x196, x197, x198, x199, x200, x201, x202, x203, x204, x205, x206, x207, x208, x209, x210, x211, x212, x213, x214, x215, x216, x217, x218, x219, x220, x221, x222, x223, x224, x225, x226, x227, x228, x229, x230, x231, x232, x233, x234, x235, x236, x237, x238, x239, x240, x241, x242, x243, x244, x245, x246, x247, x248, x249, x250, x251, x252, x253, x254, x255, x256, x257, x258], []⟩ w4 := by
 have HR := Lib.hid hR
 clear hR
 have HX4 := Lib.hid (KeptX.id w4)
 have hww := hz4
 have hz4 : w4.heap.size ≤ w4.heap.size := Nat.le_refl _
 have hk : k ≤ most := by omega
 have e0 := HM4.out.cx.maker.cell 0 (.pointer (some ⟨T, 0, none⟩)) rfl
 have e7 := HM4.out.cx.maker.cell 7 (.int .i64 count1) rfl
 dsimp only at e0 e7
 obtain ⟨_, _, _, n4, n5, n6, n7, n8, n9⟩ := HM4.out.cx.num
 dsimp only at n4 n5 n6 n7 n8 n9
 subst hcase
 simp only [swBlock, cFst, cSnd, cIn, Tryd.f26, Option.getD]
 go_wp2_with fail
 obtain ⟨p18, ht18⟩ := HM4.out.cx.tape
 refine (next_any w4 T A len cap p18 ht18 3 (by omega) (by omega)).mono ?_
 rintro e w18 ⟨q, t18, rfl, q0, q1, hm⟩
 have hg := hm.grew
 have hkx := HM4.out.keptX hg
 have HM18 := Lib.hid (HM4.out.grew hg)
 have HX18 := Lib.hid (HX4.out.trans' hkx)
 have hz18 := hg.size
 clear hkx
 clear hg hm ht18
 have hq : q = 0 ∨ q ≠ 0 := by omega
 rcases hq with rfl | hq0
 ·have e0 := HM18.out.cx.maker.cell 0 (.pointer (some ⟨T, 0, none⟩)) rfl
  dsimp only at e0
  go_wp2_with fail
  refine (expr_any ⟨M, T, f, funcs, count1, left4, P, S1, Q1, R1, pl, pc, sl1, sc1, ql1, qc1, rl1, rc1, A, len, cap⟩ w18 1 (by omega) HM18.out.cx.ctx).mono ?_
  rintro e w19 ⟨v, n19, rfl, hex, hn19, hg⟩
  obtain ⟨op1, num, vr, nm1, fld, A', len', cap', rfl⟩ := hex.shape
  dsimp only at hg
  have hkx := HM18.out.keptX hg
  have HM19 := Lib.hid (HM18.out.grew hg)
  have HX19 := Lib.hid (HX18.out.trans' hkx)
  have hz19 := hg.size
  clear hkx
  clear hg
  obtain ⟨w20, hw20⟩ : ∃ W, Hid (w19.alloc (.cells #[.int .i64 op1, .int .i64 num, .int .i64 vr, .string nm1, .string fld, .slice A' len' cap'] 72) = W) := ⟨_, Lib.hid rfl⟩
  have hb : Below w19.heap.size w19 w20 := by rw [← hw20.out]; exact (Below.refl _ _).alloc (Nat.le_refl _) _
  have hrow := row_made hex
  rw [hw20.out] at hrow
  have hkx := KeptX.below hb
  have HM20 := Lib.hid (HM19.out.below hb)
  have HX20 := Lib.hid (HX19.out.trans' hkx)
  have hz20 := hb.size
  clear hkx
  have HEa20 : Hid (ExRow w20 (some ⟨w19.heap.size, 0, none⟩) 1 1 [n19]) := Lib.hid hrow
  have hq20 : w20.heap.size = w19.heap.size + 1 := by rw [← hw20.out]; exact Array.size_push _
  have HQ20 := Lib.hid hq20
  clear hrow hex hb hq20
  obtain ⟨w21, hw21⟩ : ∃ W, Hid (w20.alloc (.cells (#[.int .i64 7, .int .i64 0, .int .i64 0, .string ⟨#[]⟩, .string ⟨#[]⟩, .int .i64 0, .int .i64 0, .slice none 0 0, .string ⟨#[]⟩, .int .i64 0, .slice (some ⟨w19.heap.size, 0, none⟩) 1 1, .slice none 0 0, .slice none 0 0]) 75) = W) := ⟨_, Lib.hid rfl⟩
  have hb : Below w20.heap.size w20 w21 := by rw [← hw21.out]; exact (Below.refl _ _).alloc (Nat.le_refl _) _
  have HY21 : Hid (w21.heap[w19.heap.size + 1]? = some (.cells (asCells 7 ⟨#[]⟩ none 0 0 (some ⟨w19.heap.size, 0, none⟩) 1 1) 75 (0, 0))) := Lib.hid (by rw [← HQ20.out]; rw [← hw21.out]; exact Array.getElem?_push_size)
  have hkx := KeptX.below hb
  have HM21 := Lib.hid (HM20.out.below hb)
  have HX21 := Lib.hid (HX20.out.trans' hkx)
  have HEa21 := Lib.hid (HEa20.out.keep hkx.e)
  have hz21 := hb.size
  clear hkx
  clear hb
  have HSF := Lib.hid (HS4.out.kept HX21.out)
  have hST : StIn w21 (fun b => w.heap.size ≤ b ∧ some b ≠ blk Ar) (d + 1) (.agg (asCells 7 ⟨#[]⟩ none 0 0 (some ⟨w19.heap.size, 0, none⟩) 1 1)) (1 + 0 + n19) := stIn_plain (kind := 7) ⟨by omega, by omega, .inl rfl⟩ (by decide) (ExRow.nil _) HEa21.out rfl (by simp) _ d
  have HST := Lib.hid hST
  have hwf : w.heap.size ≤ w21.heap.size := HM21.out.went.size
  clear hST
  go_wp2_with (at_builtin; rw [hw20.out, hw21.out]; refine wpList_plain rfl (fun K hK => ?_); refine wp_append_one _ _ rfl w.heap.size (w19.heap.size + 1) (d + 1) l c 1 (1 + 0 + n19) Ar ns (asCells 7 ⟨#[]⟩ none 0 0 (some ⟨w19.heap.size, 0, none⟩) 1 1) rfl HSF.out rfl HY21.out rfl (asCells_one _ _ _ _ _ _ _ _) HST.out (by omega) hwf ?_; intro A3 c3 w22 hgrow hplace hst7; have HMF := Lib.hid (HM21.out.rows HSF.out (Nat.le_refl _) (fun p hp => absurd hp (by simp)) hgrow); have HSL := Lib.hid hst7; clear hgrow hplace hst7; refine hK _ _ ?_)
  refine HR.out _ _ ?_
  exact ⟨_, _, _, _, _, _, _, _, _, _, _, _, _, _, _, _, _, _, _, _, _, _, _, _, _, _, _, _, _, _, _, _, _, _, _, _, _, _, _, _, _, _, _, _, _, _, _, _, _, _, _, _, _, _, _, _, _, _, _, _, _, _, _, _, _, _, _, _, _, _, _, _, _, _, _, _, _, _, _, _, _, _, _, _, _, _, _, _, _, _, _, _, _, _, _, _, _, _, _, _, _, _, _, _, _, _, _, _, _, _, _, _, _, _, _, _, _, _, _, _, _, _, _, _, _, _, _, _, _, _, _, _, _, _, _, _, _, _, _, _, _, _, _, _, _, _, _, _, _, _, _, _, _, _, _, _, _, _, _, _, _, _, _, _, _, _, _, _, _, _, _, _, _, _, _, _, _, _, _, _, _, _, _, _, _, _, _, _, _, _, _, _, _, _, _, _, _, _, _, _, _, _, _, _, _, _, _, _, _, _, _, _, _, _, _, _, _, _, _, _, _, _, _, _, _, _, _, _, _, _, _, _, _, _, _, _, _, _, _, _, _, _, _, _, _, _, _, _, _, l + 1, c3, A3, ns ++ [1 + 0 + n19], _, rfl, by omega, HSL.out, HKF.out, by dsimp only; omega, by dsimp only; omega, by rw [List.sum_append]; simp only [List.sum_cons, List.sum_nil]; (try dsimp only); omega, HMF.out⟩
 ·have e0 := HM18.out.cx.maker.cell 0 (.pointer (some ⟨T, 0, none⟩)) rfl
  dsimp only at e0
  go_wp2_with fail
  refine (assign_any B ⟨M, T, f, funcs, count1, left4, P, S1, Q1, R1, pl, pc, sl1, sc1, ql1, qc1, rl1, rc1, A, len, cap⟩ w18 HM18.out.cx).mono ?_
  rintro e w23 ⟨kd, fn, A1a, l1a, c1a, A2a, l2a, c2a, na, nb, rfl, hkd, hfn, hra, hrb, hsm, hc, hw⟩
  have hkx := hw.keptX
  have HM23 := Lib.hid (HM18.out.turned hc hw)
  have HX23 := Lib.hid (HX18.out.trans' hkx)
  have hz23 := hw.size
  clear hkx
  have HEa := Lib.hid hra
  have HEb := Lib.hid hrb
  clear hra hrb hc hw
  unfold asCells
  obtain ⟨w24, hw24⟩ : ∃ W, Hid (w23.alloc (.cells (#[.int .i64 (kd : Int), .int .i64 0, .int .i64 0, .string ⟨#[]⟩, .string ⟨#[]⟩, .int .i64 0, .int .i64 0, .slice A1a l1a c1a, .string fn, .int .i64 0, .slice A2a l2a c2a, .slice none 0 0, .slice none 0 0]) 75) = W) := ⟨_, Lib.hid rfl⟩
  have hb : Below w23.heap.size w23 w24 := by rw [← hw24.out]; exact (Below.refl _ _).alloc (Nat.le_refl _) _
  have HY24 : Hid (w24.heap[w23.heap.size]? = some (.cells (asCells kd fn A1a l1a c1a A2a l2a c2a) 75 (0, 0))) := Lib.hid (by rw [← hw24.out]; exact Array.getElem?_push_size)
  have hkx := KeptX.below hb
  have HM24 := Lib.hid (HM23.out.below hb)
  have HX24 := Lib.hid (HX23.out.trans' hkx)
  have HEa24 := Lib.hid (HEa.out.keep hkx.e)
  have HEb24 := Lib.hid (HEb.out.keep hkx.e)
  have hz24 := hb.size
  clear hkx
  clear hb
  have HSF := Lib.hid (HS4.out.kept HX24.out)
  have hST : StIn w24 (fun b => w.heap.size ≤ b ∧ some b ≠ blk Ar) (d + 1) (.agg (asCells kd fn A1a l1a c1a A2a l2a c2a)) (1 + na.sum + nb.sum) := stIn_plain hkd hfn HEa24.out HEb24.out rfl rfl _ d
  have HST := Lib.hid hST
  have hwf : w.heap.size ≤ w24.heap.size := HM24.out.went.size
  clear hST
  go_wp2_with (at_builtin; rw [hw24.out]; refine wpList_plain rfl (fun K hK => ?_); refine wp_append_one _ _ rfl w.heap.size (w23.heap.size) (d + 1) l c 1 (1 + na.sum + nb.sum) Ar ns (asCells kd fn A1a l1a c1a A2a l2a c2a) rfl HSF.out rfl HY24.out rfl (asCells_one _ _ _ _ _ _ _ _) HST.out (by omega) hwf ?_; intro A3 c3 w25 hgrow hplace hst7; have HMF := Lib.hid (HM24.out.rows HSF.out (Nat.le_refl _) (fun p hp => absurd hp (by simp)) hgrow); have HSL := Lib.hid hst7; clear hgrow hplace hst7; refine hK _ _ ?_)
  refine HR.out _ _ ?_
  exact ⟨_, _, _, _, _, _, _, _, _, _, _, _, _, _, _, _, _, _, _, _, _, _, _, _, _, _, _, _, _, _, _, _, _, _, _, _, _, _, _, _, _, _, _, _, _, _, _, _, _, _, _, _, _, _, _, _, _, _, _, _, _, _, _, _, _, _, _, _, _, _, _, _, _, _, _, _, _, _, _, _, _, _, _, _, _, _, _, _, _, _, _, _, _, _, _, _, _, _, _, _, _, _, _, _, _, _, _, _, _, _, _, _, _, _, _, _, _, _, _, _, _, _, _, _, _, _, _, _, _, _, _, _, _, _, _, _, _, _, _, _, _, _, _, _, _, _, _, _, _, _, _, _, _, _, _, _, _, _, _, _, _, _, _, _, _, _, _, _, _, _, _, _, _, _, _, _, _, _, _, _, _, _, _, _, _, _, _, _, _, _, _, _, _, _, _, _, _, _, _, _, _, _, _, _, _, _, _, _, _, _, _, _, _, _, _, _, _, _, _, _, _, _, _, _, _, _, _, _, _, _, _, _, _, _, _, _, _, _, _, _, _, _, _, _, _, _, _, _, _, l + 1, c3, A3, ns ++ [1 + na.sum + nb.sum], _, rfl, by omega, HSL.out, HKF.out, by dsimp only; omega, by dsimp only; omega, by rw [List.sum_append]; simp only [List.sum_cons, List.sum_nil]; (try dsimp only); omega, HMF.out⟩
end Go.Proofs.YtchibamdkaejdaaDoor
