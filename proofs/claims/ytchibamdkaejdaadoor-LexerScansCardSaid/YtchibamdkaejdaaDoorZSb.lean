/-
  Cases of the switch of the generator's stmts. Conditions: the maker with rows of its own; what bodies and loops make. Cases of the switch of the generator's stmts. Conditions: the maker with rows of its own; what bodies and loops make. Cases of the switch of the generator's stmts. Conditions: the maker with rows of its own; what bodies and loops make. Cases of the switch of the generator's stmts. Conditions: the maker with rows of its own; what bodies and loops make. The switch of the generator's stmts, all cases. Conditions: the maker with rows of its own; what bodies and loops make. The walk of the generator's stmts. Conditions: the maker with rows of its own; what bodies and loops make. The generator's stmts at the nesting with which a function begins. No condition.
-/
import Derived.Test.YtchibamdkaejdaaDoorZA
import Derived.Test.YtchibamdkaejdaaDoorZCa
import Derived.Test.YtchibamdkaejdaaDoorZAs
import Derived.Test.YtchibamdkaejdaaDoorZSa
import Derived.Deep.CutBlock
import Derived.Test.YtchibamdkaejdaaDoorZLo
import Derived.Test.YtchibamdkaejdaaDoorZBo
namespace Go.Proofs.YtchibamdkaejdaaDoor
open Go.RowKit
variable {lo : Nat}

set_option linter.unusedSimpArgs false in
set_option linter.unusedVariables false in
set_option maxHeartbeats 0 in
set_option maxRecDepth 100000 in
theorem sw_if (B : Nat) (nest d : Nat) (w w4 : World) (most k l c : Nat) (M T : Nat) (f funcs count0 left0 count1 left1 left4 r : Int) (P S0 Q0 R0 S1 Q1 R1 Ar : Option Addr) (pl pc sl0 sc0 ql0 qc0 rl0 rc0 sl1 sc1 ql1 qc1 rl1 rc1 : Nat) (A : Option Addr) (len cap : Nat) (ns : List Nat) (hnest : nest ≤ 4) (HIH : Hid (nest < 4 → BodyAt (nest + 1) d)) (HIL : Hid (nest < 4 → LoopAt nest d)) (H0 : Hid (M < w.heap.size)) (hmost : most ≤ 10) (hlt : k < most) (hl : l ≤ 2 * k) (hz4 : w.heap.size ≤ w4.heap.size) (hr0 : 0 ≤ r) (hr1 : r < 16) (hleft : left1 ≤ left0) (hcl : count1 + left1 ≤ count0 + left0) (hsum : (ns.sum : Int) ≤ 100 * (left0 - left1)) (hleft4 : left1 = left4 + 1) (n1 : 0 ≤ count1) (n2 : 0 ≤ left4) (n3 : count1 + left4 ≤ 21) (HKF : Hid (Kin ⟨M, T, f, funcs, count0, left0, P, S0, Q0, R0, pl, pc, sl0, sc0, ql0, qc0, rl0, rc0, A, len, cap⟩ ⟨M, T, f, funcs, count1, left4, P, S1, Q1, R1, pl, pc, sl1, sc1, ql1, qc1, rl1, rc1, A, len, cap⟩)) (HM4 : Hid (Mks lo B ⟨M, T, f, funcs, count1, left4, P, S1, Q1, R1, pl, pc, sl1, sc1, ql1, qc1, rl1, rc1, A, len, cap⟩ w [] w4)) (HS4 : Hid (StsAt w4 w.heap.size (d + 1) Ar l c ns)) {x3 x4 x5 x6 x10 x11 x12 x13 x14 x15 x16 x17 x18 x19 x20 x21 x22 x23 x24 x25 x26 x27 x28 x29 x30 x31 x32 x33 x34 x35 x36 x37 x38 x39 x40 x41 x42 x43 x44 x45 x46 x47 x48 x49 x50 x51 x52 x53 x54 x55 x56 x57 x58 x59 x60 x61 x62 x63 x64 x65 x66 x67 x68 x69 x70 x71 x72 x73 x74 x75 x76 x77 x78 x79 x80 x81 x82 x83 x84 x85 x86 x87 x88 x89 x90 x91 x92 x93 x94 x95 x96 x97 x98 x99 x100 x101 x102 x103 x104 x105 x106 x107 x108 x109 x110 x111 x112 x113 x114 x115 x116 x117 x118 x119 x120 x121 x122 x123 x124 x125 x126 x127 x128 x129 x130 x131 x132 x133 x134 x135 x136 x137 x138 x139 x140 x141 x142 x143 x144 x145 x146 x147 x148 x149 x150 x151 x152 x153 x154 x155 x156 x157 x158 x159 x160 x161 x162 x163 x164 x165 x166 x167 x168 x169 x170 x171 x172 x173 x174 x175 x176 x177 x178 x179 x180 x181 x182 x183 x184 x185 x186 x187 x188 x189 x190 x191 x192 x193 x194 x195 x196 x197 x198 x199 x200 x201 x202 x203 x204 x205 x206 x207 x208 x209 x210 x211 x212 x213 x214 x215 x216 x217 x218 x219 x220 x221 x222 x223 x224 x225 x226 x227 x228 x229 x230 x231 x232 x233 x234 x235 x236 x237 x238 x239 x240 x241 x242 x243 x244 x245 x246 x247 x248 x249 x250 x251 x252 x253 x254 x255 x256 x257 x258 : Value} (R : Exit → Act → World → Prop) (hR : ∀ a' w', SwEnd lo B w M nest most k l d left0 count0 ⟨M, T, f, funcs, count0, left0, P, S0, Q0, R0, pl, pc, sl0, sc0, ql0, qc0, rl0, rc0, A, len, cap⟩ x3 x4 x5 x6 x258 a' w' → R .normal a' w') (hcase : (r = 3 ∧ nest < 4)) : Code.wp Tryd.prog swBlock R ⟨#[.pointer (some ⟨M, 0, none⟩), .int .i64 nest, .int .i64 most, x3, x4, x5, x6, .slice Ar l c, .int .i64 k, .int .i64 r, x10, x11, x12, x13, x14, x15, x16, x17, x18, x19, x20, x21, x22, x23, x24, x25, x26, x27, x28, x29, x30, x31, x32, x33, x34, x35, x36, x37, x38, x39, x40, x41, x42, x43, x44, x45, x46, x47, x48, x49, x50, x51, x52, x53, x54, x55, x56, x57, x58, x59, x60, x61, x62, x63, x64, x65, x66, x67, x68, x69, x70, x71, x72, x73, x74, x75, x76, x77, x78, x79, x80, x81, x82, x83, x84, x85, x86, x87, x88, x89, x90, x91, x92, x93, x94, x95, x96, x97, x98, x99, x100, x101, x102, x103, x104, x105, x106, x107, x108, x109, x110, x111, x112, x113, x114, x115, x116, x117, x118, x119, x120, x121, x122, x123, x124, x125, x126, x127, x128, x129, x130, x131, x132, x133, x134, x135, x136, x137, x138, x139, x140, x141, x142, x143, x144, x145, x146, x147, x148, x149, x150, x151, x152, x153, x154, x155, x156, x157, x158, x159, x160, x161, x162, x163, x164, x165, x166, x167, x168, x169, x170, x171, x172, x173, x174, x175, x176, x177, x178, x179, x180, x181, x182, x183, x184, x185, x186, x187, x188, x189, x190, x191, x192, x193, x194, x195, x196, x197, x198, x199, x200, x201, x202, x203, x204, x205, x206, x207, x208, x209, x210, x211, x212, x213, x214, x215, x216, x217, x218, x219, x220, x221, x222, x223, x224, x225, x226, x227, x228, x229, x230, x231, x232, x233, x234, x235, x236, x237, x238, x239, x240, x241, x242, x243, x244, x245, x246, x247, x248, x249, x250, x251, x252, x253, x254, x255, x256, x257, x258], []⟩ w4 := by
 have HR := Lib.hid hR
 clear hR
 have HX4 := Lib.hid (KeptX.id w4)
 have hww := hz4
 have hz4 : w4.heap.size ≤ w4.heap.size := Nat.le_refl _
 have hk : k ≤ most := by omega
 have e0 := HM4.out.cx.maker.cell 0 (.pointer (some ⟨T, 0, none⟩)) rfl
 have e7 := HM4.out.cx.maker.cell 7 (.int .i64 count1) rfl
 dsimp only at e0 e7
 obtain ⟨_, _, _, n4, n5, n6, n7, n8, n9⟩ := HM4.out.cx.num
 dsimp only at n4 n5 n6 n7 n8 n9
 obtain ⟨rfl, hlt4⟩ := hcase
 simp only [swBlock, cFst, cSnd, cIn, Tryd.f26, Option.getD]
 go_wp2_with fail
 refine (expr_any ⟨M, T, f, funcs, count1, left4, P, S1, Q1, R1, pl, pc, sl1, sc1, ql1, qc1, rl1, rc1, A, len, cap⟩ w4 0 (by omega) HM4.out.cx.ctx).mono ?_
 rintro e w11 ⟨v, n11, rfl, hex, hn11, hg⟩
 obtain ⟨op1, num, vr, nm1, fld, A', len', cap', rfl⟩ := hex.shape
 dsimp only at hg
 have hkx := HM4.out.keptX hg
 have HM11 := Lib.hid (HM4.out.grew hg)
 have HX11 := Lib.hid (HX4.out.trans' hkx)
 have hz11 := hg.size
 clear hkx
 clear hg
 obtain ⟨w12, hw12⟩ : ∃ W, Hid (w11.alloc (.cells #[.int .i64 op1, .int .i64 num, .int .i64 vr, .string nm1, .string fld, .slice A' len' cap'] 72) = W) := ⟨_, Lib.hid rfl⟩
 have hb : Below w11.heap.size w11 w12 := by rw [← hw12.out]; exact (Below.refl _ _).alloc (Nat.le_refl _) _
 have hrow := row_made hex
 rw [hw12.out] at hrow
 have hkx := KeptX.below hb
 have HM12 := Lib.hid (HM11.out.below hb)
 have HX12 := Lib.hid (HX11.out.trans' hkx)
 have hz12 := hb.size
 clear hkx
 have HEa12 : Hid (ExRow w12 (some ⟨w11.heap.size, 0, none⟩) 1 1 [n11]) := Lib.hid hrow
 have hq12 : w12.heap.size = w11.heap.size + 1 := by rw [← hw12.out]; exact Array.size_push _
 have HQ12 := Lib.hid hq12
 clear hrow hex hb hq12
 obtain ⟨w13, hw13⟩ : ∃ W, Hid (w12.alloc (.cells (#[.int .i64 4, .int .i64 0, .int .i64 0, .string ⟨#[]⟩, .string ⟨#[]⟩, .int .i64 0, .int .i64 0, .slice none 0 0, .string ⟨#[]⟩, .int .i64 0, .slice (some ⟨w11.heap.size, 0, none⟩) 1 1, .slice none 0 0, .slice none 0 0]) 75) = W) := ⟨_, Lib.hid rfl⟩
 have hb : Below w12.heap.size w12 w13 := by rw [← hw13.out]; exact (Below.refl _ _).alloc (Nat.le_refl _) _
 have hkx := KeptX.below hb
 have HM13 : Hid (Mks lo B ⟨M, T, f, funcs, count1, left4, P, S1, Q1, R1, pl, pc, sl1, sc1, ql1, qc1, rl1, rc1, A, len, cap⟩ w [(w11.heap.size + 1, cmCells 4 ⟨#[]⟩ (some ⟨w11.heap.size, 0, none⟩) 1 1 none 0 0 none 0 0)] w13) := Lib.hid (by rw [← HQ12.out]; rw [← hw13.out]; exact HM12.out.more _)
 have HX13 := Lib.hid (HX12.out.trans' hkx)
 have HEa13 := Lib.hid (HEa12.out.keep hkx.e)
 have hz13 := hb.size
 clear hkx
 have hX13 : w4.heap.size ≤ w11.heap.size + 1 := by have := hz4; omega
 clear hb
 go_wp2_with fail
 rw [hw12.out, hw13.out]
 have hwx14 := HM13.out.lt
 refine (HIH.out hlt4 B ⟨M, T, f, funcs, count1, left4, P, S1, Q1, R1, pl, pc, sl1, sc1, ql1, qc1, rl1, rc1, A, len, cap⟩ w13 4 (by omega) HM13.out.cx).mono ?_
 rintro e w14 ⟨A14r, l14r, c14r, ns14, m14, rfl, hst, hl14r, hkin, hsl14, hql14, hrl14, hleft14, hcl14, hsum14, hc, hw⟩
 obtain ⟨M14, T14, f14, funcs14, count14, left14, P14, S14, Q14, R14, pl14, pc14, sl14, sc14, ql14, qc14, rl14, rc14, A14, len14, cap14⟩ := m14
 have hk14 := hkin
 obtain ⟨z1, z2, z3, z4, z5, z6, z7, z8, z9, z10⟩ := hk14.lets
 dsimp only at z1 z2 z3 z4 z5 z6 z7 z8 z9 z10
 subst z1 z2 z3 z4 z5 z6 z7 z8 z9 z10
 dsimp only at hsl14 hql14 hrl14 hleft14 hcl14 hsum14
 have HK14 := Lib.hid hk14
 have HLS14 := Lib.hid hsl14
 clear hk14 hsl14 hql14 hrl14
 have hkx := hw.keptX
 have HM14 := Lib.hid (HM13.out.turned hc hw)
 have HX14 := Lib.hid (HX13.out.trans' hkx)
 have HEa14 := Lib.hid (HEa13.out.keep hkx.e)
 have hz14 := hw.size
 clear hkx
 have HBb14 := Lib.hid hst
 clear hst hkin hc hw
 have HKF := Lib.hid (HKF.out.trans HK14.out)
 clear HK14
 have x11 := HM14.out.cell 11 (.slice none 0 0) rfl
 have fx11 := HM14.out.frozen 11
 obtain ⟨w15, hw15⟩ : ∃ W, Hid (w14.setCell ⟨w11.heap.size + 1, 11, none⟩ (.slice A14r l14r c14r) = W) := ⟨_, Lib.hid rfl⟩
 have hset := setB_cell (o := 11) (.slice A14r l14r c14r) HM14.out.head
 have hset : SetB (w11.heap.size + 1) (cmCells 4 ⟨#[]⟩ (some ⟨w11.heap.size, 0, none⟩) 1 1 A14r l14r c14r none 0 0) 75 w14 w15 := by rw [← hw15.out]; exact hset
 have HM15 := Lib.hid (HM14.out.setB hset (fun p hp => absurd hp (by simp)))
 have HX15 := Lib.hid (HX14.out.setB hset hX13)
 have HEa15 := Lib.hid (HEa14.out.keep (hset.keptE HM14.out.head))
 have HBb15 := Lib.hid (HBb14.out.setB HM14.out.head hset hwx14)
 have hz15 := Nat.le_of_eq hset.size.symm
 have HQ15 := Lib.hid hset.size
 clear hset
 have e0 := HM15.out.cx.maker.cell 0 (.pointer (some ⟨T, 0, none⟩)) rfl
 dsimp only at e0
 rw [← hw15.out] at e0
 go_wp2_with fail
 rw [hw15.out]
 obtain ⟨p16, ht16⟩ := HM15.out.cx.tape
 refine (next_any w15 T A len cap p16 ht16 2 (by omega) (by omega)).mono ?_
 rintro e w16 ⟨q, t16, rfl, q0, q1, hm⟩
 have hg := hm.grew
 have hkx := HM15.out.keptX hg
 have HM16 := Lib.hid (HM15.out.grew hg)
 have HX16 := Lib.hid (HX15.out.trans' hkx)
 have HEa16 := Lib.hid (HEa15.out.keep hkx.e)
 have HBb16 := Lib.hid (HBb15.out.kept hkx)
 have hz16 := hg.size
 clear hkx
 clear hg hm ht16
 have hq : q = 1 ∨ q ≠ 1 := by omega
 rcases hq with rfl | hq1
 ·go_wp2_with fail
  have hwx17 := HM16.out.lt
  refine (HIH.out hlt4 B ⟨M, T, f, funcs, count14, left14, P, S14, Q14, R14, pl, pc, sl14, sc14, ql14, qc14, rl14, rc14, A, len, cap⟩ w16 3 (by omega) HM16.out.cx).mono ?_
  rintro e w17 ⟨A17r, l17r, c17r, ns17, m17, rfl, hst, hl17r, hkin, hsl17, hql17, hrl17, hleft17, hcl17, hsum17, hc, hw⟩
  obtain ⟨M17, T17, f17, funcs17, count17, left17, P17, S17, Q17, R17, pl17, pc17, sl17, sc17, ql17, qc17, rl17, rc17, A17, len17, cap17⟩ := m17
  have hk17 := hkin
  obtain ⟨z1, z2, z3, z4, z5, z6, z7, z8, z9, z10⟩ := hk17.lets
  dsimp only at z1 z2 z3 z4 z5 z6 z7 z8 z9 z10
  subst z1 z2 z3 z4 z5 z6 z7 z8 z9 z10
  dsimp only at hsl17 hql17 hrl17 hleft17 hcl17 hsum17
  have HK17 := Lib.hid hk17
  have HLS17 := Lib.hid hsl17
  clear hk17 hsl17 hql17 hrl17
  have hkx := hw.keptX
  have HM17 := Lib.hid (HM16.out.turned hc hw)
  have HX17 := Lib.hid (HX16.out.trans' hkx)
  have HEa17 := Lib.hid (HEa16.out.keep hkx.e)
  have HBb17 := Lib.hid (HBb16.out.kept hkx)
  have hz17 := hw.size
  clear hkx
  have HBc17 := Lib.hid hst
  clear hst hkin hc hw
  have HKF := Lib.hid (HKF.out.trans HK17.out)
  clear HK17
  have x12 := HM17.out.cell 12 (.slice none 0 0) rfl
  have fx12 := HM17.out.frozen 12
  obtain ⟨w18, hw18⟩ : ∃ W, Hid (w17.setCell ⟨w11.heap.size + 1, 12, none⟩ (.slice A17r l17r c17r) = W) := ⟨_, Lib.hid rfl⟩
  have hset := setB_cell (o := 12) (.slice A17r l17r c17r) HM17.out.head
  have hset : SetB (w11.heap.size + 1) (cmCells 4 ⟨#[]⟩ (some ⟨w11.heap.size, 0, none⟩) 1 1 A14r l14r c14r A17r l17r c17r) 75 w17 w18 := by rw [← hw18.out]; exact hset
  have HM18 := Lib.hid (HM17.out.setB hset (fun p hp => absurd hp (by simp)))
  have HX18 := Lib.hid (HX17.out.setB hset hX13)
  have HEa18 := Lib.hid (HEa17.out.keep (hset.keptE HM17.out.head))
  have HBb18 := Lib.hid (HBb17.out.setB HM17.out.head hset hwx14)
  have HBc18 := Lib.hid (HBc17.out.setB HM17.out.head hset hwx17)
  have hz18 := Nat.le_of_eq hset.size.symm
  have HQ18 := Lib.hid hset.size
  clear hset
  obtain ⟨w19, hw19⟩ : ∃ W, Hid (w18.alloc (.cells (#[.int .i64 4, .int .i64 0, .int .i64 0, .string ⟨#[]⟩, .string ⟨#[]⟩, .int .i64 0, .int .i64 0, .slice none 0 0, .string ⟨#[]⟩, .int .i64 0, .slice (some ⟨w11.heap.size, 0, none⟩) 1 1, .slice A14r l14r c14r, .slice A17r l17r c17r]) 75) = W) := ⟨_, Lib.hid rfl⟩
  have hb : Below w18.heap.size w18 w19 := by rw [← hw19.out]; exact (Below.refl _ _).alloc (Nat.le_refl _) _
  have HY19 : Hid (w19.heap[w18.heap.size]? = some (.cells (cmCells 4 ⟨#[]⟩ (some ⟨w11.heap.size, 0, none⟩) 1 1 A14r l14r c14r A17r l17r c17r) 75 (0, 0))) := Lib.hid (by rw [← hw19.out]; exact Array.getElem?_push_size)
  have hkx := KeptX.below hb
  have HM19 := Lib.hid (HM18.out.below hb)
  have HX19 := Lib.hid (HX18.out.trans' hkx)
  have HEa19 := Lib.hid (HEa18.out.keep hkx.e)
  have HBb19 := Lib.hid (HBb18.out.kept hkx)
  have HBc19 := Lib.hid (HBc18.out.kept hkx)
  have hz19 := hb.size
  clear hkx
  clear hb
  have HSF := Lib.hid (HS4.out.kept HX19.out)
  have hST : StIn w19 (fun b => w.heap.size ≤ b ∧ some b ≠ blk Ar) (d + 1) (.agg (cmCells 4 ⟨#[]⟩ (some ⟨w11.heap.size, 0, none⟩) 1 1 A14r l14r c14r A17r l17r c17r)) (1 + [n11].sum + ns14.sum + ns17.sum) := stIn_comp (kind := 4) ⟨by omega, by omega⟩ (by decide) HEa19.out (HBb19.out.row.mono (fun b _ hb => HS4.out.beyond hww (Nat.le_trans (show w4.heap.size ≤ w13.heap.size by omega) hb))) (HBc19.out.row.mono (fun b _ hb => HS4.out.beyond hww (Nat.le_trans (show w4.heap.size ≤ w16.heap.size by omega) hb)))
  have HST := Lib.hid hST
  have hwf : w.heap.size ≤ w19.heap.size := HM19.out.went.size
  clear hST
  go_wp2_with (first | (((with_reducible show wpList _ _ _ (Oper.mk _ (Op.load 75 _) _ _ _ none :: _) _ _); (rw [hw18.out]; refine load_stmt rfl _ rfl (w11.heap.size + 1) (#[.int .i64 4, .int .i64 0, .int .i64 0, .string ⟨#[]⟩, .string ⟨#[]⟩, .int .i64 0, .int .i64 0, .slice none 0 0, .string ⟨#[]⟩, .int .i64 0, .slice (some ⟨w11.heap.size, 0, none⟩) 1 1, .slice A14r l14r c14r, .slice A17r l17r c17r]) rfl HM18.out.head rfl ?_))) | (at_builtin; rw [hw19.out]; refine wpList_plain rfl (fun K hK => ?_); refine wp_append_one _ _ rfl w.heap.size (w18.heap.size) (d + 1) l c 1 (1 + [n11].sum + ns14.sum + ns17.sum) Ar ns (cmCells 4 ⟨#[]⟩ (some ⟨w11.heap.size, 0, none⟩) 1 1 A14r l14r c14r A17r l17r c17r) rfl HSF.out rfl HY19.out rfl (cmCells_one _ _ _ _ _ _ _ _ _ _ _) HST.out (by omega) hwf ?_; intro A3 c3 w20 hgrow hplace hst7; have HMF := Lib.hid (HM19.out.drop.rows HSF.out (Nat.le_refl _) (fun p hp => absurd hp (by simp)) hgrow); have HSL := Lib.hid hst7; clear hgrow hplace hst7; refine hK _ _ ?_))
  refine HR.out _ _ ?_
  exact ⟨_, _, _, _, _, _, _, _, _, _, _, _, _, _, _, _, _, _, _, _, _, _, _, _, _, _, _, _, _, _, _, _, _, _, _, _, _, _, _, _, _, _, _, _, _, _, _, _, _, _, _, _, _, _, _, _, _, _, _, _, _, _, _, _, _, _, _, _, _, _, _, _, _, _, _, _, _, _, _, _, _, _, _, _, _, _, _, _, _, _, _, _, _, _, _, _, _, _, _, _, _, _, _, _, _, _, _, _, _, _, _, _, _, _, _, _, _, _, _, _, _, _, _, _, _, _, _, _, _, _, _, _, _, _, _, _, _, _, _, _, _, _, _, _, _, _, _, _, _, _, _, _, _, _, _, _, _, _, _, _, _, _, _, _, _, _, _, _, _, _, _, _, _, _, _, _, _, _, _, _, _, _, _, _, _, _, _, _, _, _, _, _, _, _, _, _, _, _, _, _, _, _, _, _, _, _, _, _, _, _, _, _, _, _, _, _, _, _, _, _, _, _, _, _, _, _, _, _, _, _, _, _, _, _, _, _, _, _, _, _, _, _, _, _, _, _, _, _, _, l + 1, c3, A3, ns ++ [1 + [n11].sum + ns14.sum + ns17.sum], _, rfl, by omega, HSL.out, HKF.out, by dsimp only; omega, by dsimp only; omega, by rw [List.sum_append]; simp only [List.sum_cons, List.sum_nil]; (try dsimp only); omega, HMF.out⟩
 ·obtain ⟨w21, hw21⟩ : ∃ W, Hid (w16.alloc (.cells (#[.int .i64 4, .int .i64 0, .int .i64 0, .string ⟨#[]⟩, .string ⟨#[]⟩, .int .i64 0, .int .i64 0, .slice none 0 0, .string ⟨#[]⟩, .int .i64 0, .slice (some ⟨w11.heap.size, 0, none⟩) 1 1, .slice A14r l14r c14r, .slice none 0 0]) 75) = W) := ⟨_, Lib.hid rfl⟩
  have hb : Below w16.heap.size w16 w21 := by rw [← hw21.out]; exact (Below.refl _ _).alloc (Nat.le_refl _) _
  have HY21 : Hid (w21.heap[w16.heap.size]? = some (.cells (cmCells 4 ⟨#[]⟩ (some ⟨w11.heap.size, 0, none⟩) 1 1 A14r l14r c14r none 0 0) 75 (0, 0))) := Lib.hid (by rw [← hw21.out]; exact Array.getElem?_push_size)
  have hkx := KeptX.below hb
  have HM21 := Lib.hid (HM16.out.below hb)
  have HX21 := Lib.hid (HX16.out.trans' hkx)
  have HEa21 := Lib.hid (HEa16.out.keep hkx.e)
  have HBb21 := Lib.hid (HBb16.out.kept hkx)
  have hz21 := hb.size
  clear hkx
  clear hb
  have HSF := Lib.hid (HS4.out.kept HX21.out)
  have hST : StIn w21 (fun b => w.heap.size ≤ b ∧ some b ≠ blk Ar) (d + 1) (.agg (cmCells 4 ⟨#[]⟩ (some ⟨w11.heap.size, 0, none⟩) 1 1 A14r l14r c14r none 0 0)) (1 + [n11].sum + ns14.sum + ([] : List Nat).sum) := stIn_comp (kind := 4) ⟨by omega, by omega⟩ (by decide) HEa21.out (HBb21.out.row.mono (fun b _ hb => HS4.out.beyond hww (Nat.le_trans (show w4.heap.size ≤ w13.heap.size by omega) hb))) (StRow.nil _ _ _)
  have HST := Lib.hid hST
  have hwf : w.heap.size ≤ w21.heap.size := HM21.out.went.size
  clear hST
  go_wp2_with (first | (((with_reducible show wpList _ _ _ (Oper.mk _ (Op.load 75 _) _ _ _ none :: _) _ _); (refine load_stmt rfl _ rfl (w11.heap.size + 1) (#[.int .i64 4, .int .i64 0, .int .i64 0, .string ⟨#[]⟩, .string ⟨#[]⟩, .int .i64 0, .int .i64 0, .slice none 0 0, .string ⟨#[]⟩, .int .i64 0, .slice (some ⟨w11.heap.size, 0, none⟩) 1 1, .slice A14r l14r c14r, .slice none 0 0]) rfl HM16.out.head rfl ?_))) | (at_builtin; rw [hw21.out]; refine wpList_plain rfl (fun K hK => ?_); refine wp_append_one _ _ rfl w.heap.size (w16.heap.size) (d + 1) l c 1 (1 + [n11].sum + ns14.sum + ([] : List Nat).sum) Ar ns (cmCells 4 ⟨#[]⟩ (some ⟨w11.heap.size, 0, none⟩) 1 1 A14r l14r c14r none 0 0) rfl HSF.out rfl HY21.out rfl (cmCells_one _ _ _ _ _ _ _ _ _ _ _) HST.out (by omega) hwf ?_; intro A3 c3 w22 hgrow hplace hst7; have HMF := Lib.hid (HM21.out.drop.rows HSF.out (Nat.le_refl _) (fun p hp => absurd hp (by simp)) hgrow); have HSL := Lib.hid hst7; clear hgrow hplace hst7; refine hK _ _ ?_))
  refine HR.out _ _ ?_
  exact ⟨_, _, _, _, _, _, _, _, _, _, _, _, _, _, _, _, _, _, _, _, _, _, _, _, _, _, _, _, _, _, _, _, _, _, _, _, _, _, _, _, _, _, _, _, _, _, _, _, _, _, _, _, _, _, _, _, _, _, _, _, _, _, _, _, _, _, _, _, _, _, _, _, _, _, _, _, _, _, _, _, _, _, _, _, _, _, _, _, _, _, _, _, _, _, _, _, _, _, _, _, _, _, _, _, _, _, _, _, _, _, _, _, _, _, _, _, _, _, _, _, _, _, _, _, _, _, _, _, _, _, _, _, _, _, _, _, _, _, _, _, _, _, _, _, _, _, _, _, _, _, _, _, _, _, _, _, _, _, _, _, _, _, _, _, _, _, _, _, _, _, _, _, _, _, _, _, _, _, _, _, _, _, _, _, _, _, _, _, _, _, _, _, _, _, _, _, _, _, _, _, _, _, _, _, _, _, _, _, _, _, _, _, _, _, _, _, _, _, _, _, _, _, _, _, _, _, _, _, _, _, _, _, _, _, _, _, _, _, _, _, _, _, _, _, _, _, _, _, _, l + 1, c3, A3, ns ++ [1 + [n11].sum + ns14.sum + ([] : List Nat).sum], _, rfl, by omega, HSL.out, HKF.out, by dsimp only; omega, by dsimp only; omega, by rw [List.sum_append]; simp only [List.sum_cons, List.sum_nil]; (try dsimp only); omega, HMF.out⟩
end Go.Proofs.YtchibamdkaejdaaDoor
namespace Go.Proofs.YtchibamdkaejdaaDoor
open Go.RowKit
variable {lo : Nat}

set_option linter.unusedSimpArgs false in
set_option linter.unusedVariables false in
set_option maxHeartbeats 0 in
set_option maxRecDepth 100000 in
theorem sw_ret (B : Nat) (nest d : Nat) (w w4 : World) (most k l c : Nat) (M T : Nat) (f funcs count0 left0 count1 left1 left4 r : Int) (P S0 Q0 R0 S1 Q1 R1 Ar : Option Addr) (pl pc sl0 sc0 ql0 qc0 rl0 rc0 sl1 sc1 ql1 qc1 rl1 rc1 : Nat) (A : Option Addr) (len cap : Nat) (ns : List Nat) (hnest : nest ≤ 4) (HIH : Hid (nest < 4 → BodyAt (nest + 1) d)) (HIL : Hid (nest < 4 → LoopAt nest d)) (H0 : Hid (M < w.heap.size)) (hmost : most ≤ 10) (hlt : k < most) (hl : l ≤ 2 * k) (hz4 : w.heap.size ≤ w4.heap.size) (hr0 : 0 ≤ r) (hr1 : r < 16) (hleft : left1 ≤ left0) (hcl : count1 + left1 ≤ count0 + left0) (hsum : (ns.sum : Int) ≤ 100 * (left0 - left1)) (hleft4 : left1 = left4 + 1) (n1 : 0 ≤ count1) (n2 : 0 ≤ left4) (n3 : count1 + left4 ≤ 21) (HKF : Hid (Kin ⟨M, T, f, funcs, count0, left0, P, S0, Q0, R0, pl, pc, sl0, sc0, ql0, qc0, rl0, rc0, A, len, cap⟩ ⟨M, T, f, funcs, count1, left4, P, S1, Q1, R1, pl, pc, sl1, sc1, ql1, qc1, rl1, rc1, A, len, cap⟩)) (HM4 : Hid (Mks lo B ⟨M, T, f, funcs, count1, left4, P, S1, Q1, R1, pl, pc, sl1, sc1, ql1, qc1, rl1, rc1, A, len, cap⟩ w [] w4)) (HS4 : Hid (StsAt w4 w.heap.size (d + 1) Ar l c ns)) {x3 x4 x5 x6 x10 x11 x12 x13 x14 x15 x16 x17 x18 x19 x20 x21 x22 x23 x24 x25 x26 x27 x28 x29 x30 x31 x32 x33 x34 x35 x36 x37 x38 x39 x40 x41 x42 x43 x44 x45 x46 x47 x48 x49 x50 x51 x52 x53 x54 x55 x56 x57 x58 x59 x60 x61 x62 x63 x64 x65 x66 x67 x68 x69 x70 x71 x72 x73 x74 x75 x76 x77 x78 x79 x80 x81 x82 x83 x84 x85 x86 x87 x88 x89 x90 x91 x92 x93 x94 x95 x96 x97 x98 x99 x100 x101 x102 x103 x104 x105 x106 x107 x108 x109 x110 x111 x112 x113 x114 x115 x116 x117 x118 x119 x120 x121 x122 x123 x124 x125 x126 x127 x128 x129 x130 x131 x132 x133 x134 x135 x136 x137 x138 x139 x140 x141 x142 x143 x144 x145 x146 x147 x148 x149 x150 x151 x152 x153 x154 x155 x156 x157 x158 x159 x160 x161 x162 x163 x164 x165 x166 x167 x168 x169 x170 x171 x172 x173 x174 x175 x176 x177 x178 x179 x180 x181 x182 x183 x184 x185 x186 x187 x188 x189 x190 x191 x192 x193 x194 x195 x196 x197 x198 x199 x200 x201 x202 x203 x204 x205 x206 x207 x208 x209 x210 x211 x212 x213 x214 x215 x216 x217 x218 x219 x220 x221 x222 x223 x224 x225 x226 x227 x228 x229 x230 x231 x232 x233 x234 x235 x236 x237 x238 x239 x240 x241 x242 x243 x244 x245 x246 x247 x248 x249 x250 x251 x252 x253 x254 x255 x256 x257 x258 : Value} (R : Exit → Act → World → Prop) (hR : ∀ a' w', SwEnd lo B w M nest most k l d left0 count0 ⟨M, T, f, funcs, count0, left0, P, S0, Q0, R0, pl, pc, sl0, sc0, ql0, qc0, rl0, rc0, A, len, cap⟩ x3 x4 x5 x6 x258 a' w' → R .normal a' w') (hcase : (r = 7)) : Code.wp Tryd.prog swBlock R ⟨#[.pointer (some ⟨M, 0, none⟩), .int .i64 nest, .int .i64 most, x3, x4, x5, x6, .slice Ar l c, .int .i64 k, .int .i64 r, x10, x11, x12, x13, x14, x15, x16, x17, x18, x19, x20, x21, x22, x23, x24, x25, x26, x27, x28, x29, x30, x31, x32, x33, x34, x35, x36, x37, x38, x39, x40, x41, x42, x43, x44, x45, x46, x47, x48, x49, x50, x51, x52, x53, x54, x55, x56, x57, x58, x59, x60, x61, x62, x63, x64, x65, x66, x67, x68, x69, x70, x71, x72, x73, x74, x75, x76, x77, x78, x79, x80, x81, x82, x83, x84, x85, x86, x87, x88, x89, x90, x91, x92, x93, x94, x95, x96, x97, x98, x99, x100, x101, x102, x103, x104, x105, x106, x107, x108, x109, x110, x111, x112, x113, x114, x115, x116, x117, x118, x119, x120, x121, x122, x123, x124, x125, x126, x127, x128, x129, x130, x131, x132, x133, x134, x135, x136, x137, x138, x139, x140, x141, x142, x143, x144, x145, x146, x147, x148, x149, x150, x151, x152, x153, x154, x155, x156, x157, x158, x159, x160, x161, x162, x163, x164, x165, x166, x167, x168, x169, x170, x171, x172, x173, x174, x175, x176, x177, x178, x179, x180, x181, x182, x183, x184, x185, x186, x187, x188, x189, x190, x191, x192, x193, x194, x195, x196, x197, x198, x199, x200, x201, x202, x203, x204, x205, x206, x207, x208, x209, x210, x211, x212, x213, x214, x215, x216, x217, x218, x219, x220, x221, x222, x223, x224, x225, x226, x227, x228, x229, x230, x231, x232, x233, x234, x235, x236, x237, x238, x239, x240, x241, x242, x243, x244, x245, x246, x247, x248, x249, x250, x251, x252, x253, x254, x255, x256, x257, x258], []⟩ w4 := by
 have HR := Lib.hid hR
 clear hR
 have HX4 := Lib.hid (KeptX.id w4)
 have hww := hz4
 have hz4 : w4.heap.size ≤ w4.heap.size := Nat.le_refl _
 have hk : k ≤ most := by omega
 have e0 := HM4.out.cx.maker.cell 0 (.pointer (some ⟨T, 0, none⟩)) rfl
 have e7 := HM4.out.cx.maker.cell 7 (.int .i64 count1) rfl
 dsimp only at e0 e7
 obtain ⟨_, _, _, n4, n5, n6, n7, n8, n9⟩ := HM4.out.cx.num
 dsimp only at n4 n5 n6 n7 n8 n9
 subst hcase
 simp only [swBlock, cFst, cSnd, cIn, Tryd.f26, Option.getD]
 go_wp2_with fail
 obtain ⟨p11, ht11⟩ := HM4.out.cx.tape
 refine (next_any w4 T A len cap p11 ht11 3 (by omega) (by omega)).mono ?_
 rintro e w11 ⟨q, t11, rfl, q0, q1, hm⟩
 have hg := hm.grew
 have hkx := HM4.out.keptX hg
 have HM11 := Lib.hid (HM4.out.grew hg)
 have HX11 := Lib.hid (HX4.out.trans' hkx)
 have hz11 := hg.size
 clear hkx
 clear hg hm ht11
 have hq : q = 0 ∨ q ≠ 0 := by omega
 rcases hq with rfl | hq0
 ·have e0 := HM11.out.cx.maker.cell 0 (.pointer (some ⟨T, 0, none⟩)) rfl
  dsimp only at e0
  obtain ⟨w12, hw12⟩ : ∃ W, Hid (w11.alloc (.cells (#[.int .i64 6, .int .i64 0, .int .i64 0, .string ⟨#[]⟩, .string ⟨#[]⟩, .int .i64 0, .int .i64 0, .slice none 0 0, .string ⟨#[]⟩, .int .i64 0, .slice none 0 0, .slice none 0 0, .slice none 0 0]) 75) = W) := ⟨_, Lib.hid rfl⟩
  have hb : Below w11.heap.size w11 w12 := by rw [← hw12.out]; exact (Below.refl _ _).alloc (Nat.le_refl _) _
  have hkx := KeptX.below hb
  have HM12 : Hid (Mks lo B ⟨M, T, f, funcs, count1, left4, P, S1, Q1, R1, pl, pc, sl1, sc1, ql1, qc1, rl1, rc1, A, len, cap⟩ w [(w11.heap.size, callCells 6 ⟨#[]⟩ none 0 0)] w12) := Lib.hid (by rw [← hw12.out]; exact HM11.out.more _)
  have HX12 := Lib.hid (HX11.out.trans' hkx)
  have hz12 := hb.size
  clear hkx
  have hX12 : w4.heap.size ≤ w11.heap.size := by have := hz4; omega
  clear hb
  have e0 := HM12.out.cx.maker.cell 0 (.pointer (some ⟨T, 0, none⟩)) rfl
  dsimp only at e0
  rw [← hw12.out] at e0
  go_wp2_with fail
  rw [hw12.out]
  obtain ⟨p13, ht13⟩ := HM12.out.cx.tape
  refine (next_any w12 T A len cap p13 ht13 2 (by omega) (by omega)).mono ?_
  rintro e w13 ⟨q2, t13, rfl, q20, q21, hm⟩
  have hg := hm.grew
  have hkx := HM12.out.keptX hg
  have HM13 := Lib.hid (HM12.out.grew hg)
  have HX13 := Lib.hid (HX12.out.trans' hkx)
  have hz13 := hg.size
  clear hkx
  clear hg hm ht13
  have hq : q2 = 0 ∨ q2 = 1 := by omega
  rcases hq with rfl | rfl
  ·go_wp2_with fail
   refine (expr_any ⟨M, T, f, funcs, count1, left4, P, S1, Q1, R1, pl, pc, sl1, sc1, ql1, qc1, rl1, rc1, A, len, cap⟩ w13 0 (by omega) HM13.out.cx.ctx).mono ?_
   rintro e w14 ⟨v, n14, rfl, hex, hn14, hg⟩
   obtain ⟨op1, num, vr, nm1, fld, A', len', cap', rfl⟩ := hex.shape
   dsimp only at hg
   have hkx := HM13.out.keptX hg
   have HM14 := Lib.hid (HM13.out.grew hg)
   have HX14 := Lib.hid (HX13.out.trans' hkx)
   have hz14 := hg.size
   clear hkx
   clear hg
   obtain ⟨w15, hw15⟩ : ∃ W, Hid (w14.alloc (.cells #[.int .i64 op1, .int .i64 num, .int .i64 vr, .string nm1, .string fld, .slice A' len' cap'] 72) = W) := ⟨_, Lib.hid rfl⟩
   have hb : Below w14.heap.size w14 w15 := by rw [← hw15.out]; exact (Below.refl _ _).alloc (Nat.le_refl _) _
   have hrow := row_made hex
   rw [hw15.out] at hrow
   have hkx := KeptX.below hb
   have HM15 := Lib.hid (HM14.out.below hb)
   have HX15 := Lib.hid (HX14.out.trans' hkx)
   have hz15 := hb.size
   clear hkx
   have HEa15 : Hid (ExRow w15 (some ⟨w14.heap.size, 0, none⟩) 1 1 [n14]) := Lib.hid hrow
   have hq15 : w15.heap.size = w14.heap.size + 1 := by rw [← hw15.out]; exact Array.size_push _
   have HQ15 := Lib.hid hq15
   clear hrow hex hb hq15
   go_wp2_with (first | ((with_reducible show wpList _ _ _ (Oper.mk none (Op.store 75 _ _) _ _ _ none :: _) _ _); rw [hw15.out]; refine store_stmt rfl rfl _ _ rfl (w11.heap.size) _ (asCells 6 ⟨#[]⟩ none 0 0 (some ⟨w14.heap.size, 0, none⟩) 1 1) rfl rfl HM15.out.head rfl rfl (asCells_one _ _ _ _ _ _ _ _) ?_; intro w16 hset; have HM16 := Lib.hid (HM15.out.setB hset (fun p hp => absurd hp (by simp))); have HX16 := Lib.hid (HX15.out.setB hset hX12); have HEa16 := Lib.hid (HEa15.out.keep (hset.keptE HM15.out.head)); have hz16 := Nat.le_of_eq hset.size.symm; clear hset; obtain ⟨w18, hw18⟩ : ∃ W, Hid (w16.alloc (.cells (#[.int .i64 6, .int .i64 0, .int .i64 0, .string ⟨#[]⟩, .string ⟨#[]⟩, .int .i64 0, .int .i64 0, .slice none 0 0, .string ⟨#[]⟩, .int .i64 0, .slice (some ⟨w14.heap.size, 0, none⟩) 1 1, .slice none 0 0, .slice none 0 0]) 75) = W) := ⟨_, Lib.hid rfl⟩; have hb : Below w16.heap.size w16 w18 := (by rw [← hw18.out]; exact (Below.refl _ _).alloc (Nat.le_refl _) _); have HY18 : Hid (w18.heap[w16.heap.size]? = some (.cells (asCells 6 ⟨#[]⟩ none 0 0 (some ⟨w14.heap.size, 0, none⟩) 1 1) 75 (0, 0))) := Lib.hid (by rw [← hw18.out]; exact Array.getElem?_push_size); have hkx := KeptX.below hb; have HM18 := Lib.hid (HM16.out.below hb); have HX18 := Lib.hid (HX16.out.trans' hkx); have HEa18 := Lib.hid (HEa16.out.keep hkx.e); have hz18 := hb.size; clear hkx; clear hb; have HSF := Lib.hid (HS4.out.kept HX18.out); have hST : StIn w18 (fun b => w.heap.size ≤ b ∧ some b ≠ blk Ar) (d + 1) (.agg (asCells 6 ⟨#[]⟩ none 0 0 (some ⟨w14.heap.size, 0, none⟩) 1 1)) (1 + 0 + n14) := stIn_plain (kind := 6) ⟨by omega, by omega, .inl rfl⟩ (by decide) (ExRow.nil _) HEa18.out rfl (by simp) _ d; have HST := Lib.hid hST; have hwf : w.heap.size ≤ w18.heap.size := HM18.out.went.size; clear hST; skip) | (((with_reducible show wpList _ _ _ (Oper.mk _ (Op.load 75 _) _ _ _ none :: _) _ _); (refine load_stmt rfl _ rfl (w11.heap.size) (#[.int .i64 6, .int .i64 0, .int .i64 0, .string ⟨#[]⟩, .string ⟨#[]⟩, .int .i64 0, .int .i64 0, .slice none 0 0, .string ⟨#[]⟩, .int .i64 0, .slice (some ⟨w14.heap.size, 0, none⟩) 1 1, .slice none 0 0, .slice none 0 0]) rfl HM16.out.head rfl ?_))) | (at_builtin; rw [hw18.out]; refine wpList_plain rfl (fun K hK => ?_); refine wp_append_one _ _ rfl w.heap.size (w16.heap.size) (d + 1) l c 1 (1 + 0 + n14) Ar ns (asCells 6 ⟨#[]⟩ none 0 0 (some ⟨w14.heap.size, 0, none⟩) 1 1) rfl HSF.out rfl HY18.out rfl (asCells_one _ _ _ _ _ _ _ _) HST.out (by omega) hwf ?_; intro A3 c3 w19 hgrow hplace hst7; have HMF := Lib.hid (HM18.out.drop.rows HSF.out (Nat.le_refl _) (fun p hp => absurd hp (by simp)) hgrow); have HSL := Lib.hid hst7; clear hgrow hplace hst7; refine hK _ _ ?_))
   refine HR.out _ _ ?_
   exact ⟨_, _, _, _, _, _, _, _, _, _, _, _, _, _, _, _, _, _, _, _, _, _, _, _, _, _, _, _, _, _, _, _, _, _, _, _, _, _, _, _, _, _, _, _, _, _, _, _, _, _, _, _, _, _, _, _, _, _, _, _, _, _, _, _, _, _, _, _, _, _, _, _, _, _, _, _, _, _, _, _, _, _, _, _, _, _, _, _, _, _, _, _, _, _, _, _, _, _, _, _, _, _, _, _, _, _, _, _, _, _, _, _, _, _, _, _, _, _, _, _, _, _, _, _, _, _, _, _, _, _, _, _, _, _, _, _, _, _, _, _, _, _, _, _, _, _, _, _, _, _, _, _, _, _, _, _, _, _, _, _, _, _, _, _, _, _, _, _, _, _, _, _, _, _, _, _, _, _, _, _, _, _, _, _, _, _, _, _, _, _, _, _, _, _, _, _, _, _, _, _, _, _, _, _, _, _, _, _, _, _, _, _, _, _, _, _, _, _, _, _, _, _, _, _, _, _, _, _, _, _, _, _, _, _, _, _, _, _, _, _, _, _, _, _, _, _, _, _, _, l + 1, c3, A3, ns ++ [1 + 0 + n14], _, rfl, by omega, HSL.out, HKF.out, by dsimp only; omega, by dsimp only; omega, by rw [List.sum_append]; simp only [List.sum_cons, List.sum_nil]; (try dsimp only); omega, HMF.out⟩
  ·go_wp2_with fail
   refine (call_any B ⟨M, T, f, funcs, count1, left4, P, S1, Q1, R1, pl, pc, sl1, sc1, ql1, qc1, rl1, rc1, A, len, cap⟩ w13 HM13.out.cx (w11.heap.size) 6 HM13.out.head (Nat.le_trans HM13.out.lo0 HM13.out.low)).mono ?_
   rintro e w20 (⟨rfl, hg⟩ | ⟨fn, A', l', c', nc, rfl, hfn, hX3, hrow3, hsum3, hc3, hgx3⟩)
   ·dsimp only at hg
    have hkx := HM13.out.keptX hg
    have HM20 := Lib.hid (HM13.out.grew hg)
    have HX20 := Lib.hid (HX13.out.trans' hkx)
    have hz20 := hg.size
    clear hkx
    clear hg
    go_wp2_with fail
    refine (expr_any ⟨M, T, f, funcs, count1, left4, P, S1, Q1, R1, pl, pc, sl1, sc1, ql1, qc1, rl1, rc1, A, len, cap⟩ w20 0 (by omega) HM20.out.cx.ctx).mono ?_
    rintro e w21 ⟨v, n21, rfl, hex, hn21, hg⟩
    obtain ⟨op1, num, vr, nm1, fld, A', len', cap', rfl⟩ := hex.shape
    dsimp only at hg
    have hkx := HM20.out.keptX hg
    have HM21 := Lib.hid (HM20.out.grew hg)
    have HX21 := Lib.hid (HX20.out.trans' hkx)
    have hz21 := hg.size
    clear hkx
    clear hg
    obtain ⟨w22, hw22⟩ : ∃ W, Hid (w21.alloc (.cells #[.int .i64 op1, .int .i64 num, .int .i64 vr, .string nm1, .string fld, .slice A' len' cap'] 72) = W) := ⟨_, Lib.hid rfl⟩
    have hb : Below w21.heap.size w21 w22 := by rw [← hw22.out]; exact (Below.refl _ _).alloc (Nat.le_refl _) _
    have hrow := row_made hex
    rw [hw22.out] at hrow
    have hkx := KeptX.below hb
    have HM22 := Lib.hid (HM21.out.below hb)
    have HX22 := Lib.hid (HX21.out.trans' hkx)
    have hz22 := hb.size
    clear hkx
    have HEa22 : Hid (ExRow w22 (some ⟨w21.heap.size, 0, none⟩) 1 1 [n21]) := Lib.hid hrow
    have hq22 : w22.heap.size = w21.heap.size + 1 := by rw [← hw22.out]; exact Array.size_push _
    have HQ22 := Lib.hid hq22
    clear hrow hex hb hq22
    go_wp2_with (first | ((with_reducible show wpList _ _ _ (Oper.mk none (Op.store 75 _ _) _ _ _ none :: _) _ _); rw [hw22.out]; refine store_stmt rfl rfl _ _ rfl (w11.heap.size) _ (asCells 6 ⟨#[]⟩ none 0 0 (some ⟨w21.heap.size, 0, none⟩) 1 1) rfl rfl HM22.out.head rfl rfl (asCells_one _ _ _ _ _ _ _ _) ?_; intro w23 hset; have HM23 := Lib.hid (HM22.out.setB hset (fun p hp => absurd hp (by simp))); have HX23 := Lib.hid (HX22.out.setB hset hX12); have HEa23 := Lib.hid (HEa22.out.keep (hset.keptE HM22.out.head)); have hz23 := Nat.le_of_eq hset.size.symm; clear hset; obtain ⟨w25, hw25⟩ : ∃ W, Hid (w23.alloc (.cells (#[.int .i64 6, .int .i64 0, .int .i64 0, .string ⟨#[]⟩, .string ⟨#[]⟩, .int .i64 0, .int .i64 0, .slice none 0 0, .string ⟨#[]⟩, .int .i64 0, .slice (some ⟨w21.heap.size, 0, none⟩) 1 1, .slice none 0 0, .slice none 0 0]) 75) = W) := ⟨_, Lib.hid rfl⟩; have hb : Below w23.heap.size w23 w25 := (by rw [← hw25.out]; exact (Below.refl _ _).alloc (Nat.le_refl _) _); have HY25 : Hid (w25.heap[w23.heap.size]? = some (.cells (asCells 6 ⟨#[]⟩ none 0 0 (some ⟨w21.heap.size, 0, none⟩) 1 1) 75 (0, 0))) := Lib.hid (by rw [← hw25.out]; exact Array.getElem?_push_size); have hkx := KeptX.below hb; have HM25 := Lib.hid (HM23.out.below hb); have HX25 := Lib.hid (HX23.out.trans' hkx); have HEa25 := Lib.hid (HEa23.out.keep hkx.e); have hz25 := hb.size; clear hkx; clear hb; have HSF := Lib.hid (HS4.out.kept HX25.out); have hST : StIn w25 (fun b => w.heap.size ≤ b ∧ some b ≠ blk Ar) (d + 1) (.agg (asCells 6 ⟨#[]⟩ none 0 0 (some ⟨w21.heap.size, 0, none⟩) 1 1)) (1 + 0 + n21) := stIn_plain (kind := 6) ⟨by omega, by omega, .inl rfl⟩ (by decide) (ExRow.nil _) HEa25.out rfl (by simp) _ d; have HST := Lib.hid hST; have hwf : w.heap.size ≤ w25.heap.size := HM25.out.went.size; clear hST; skip) | (((with_reducible show wpList _ _ _ (Oper.mk _ (Op.load 75 _) _ _ _ none :: _) _ _); (refine load_stmt rfl _ rfl (w11.heap.size) (#[.int .i64 6, .int .i64 0, .int .i64 0, .string ⟨#[]⟩, .string ⟨#[]⟩, .int .i64 0, .int .i64 0, .slice none 0 0, .string ⟨#[]⟩, .int .i64 0, .slice (some ⟨w21.heap.size, 0, none⟩) 1 1, .slice none 0 0, .slice none 0 0]) rfl HM23.out.head rfl ?_))) | (at_builtin; rw [hw25.out]; refine wpList_plain rfl (fun K hK => ?_); refine wp_append_one _ _ rfl w.heap.size (w23.heap.size) (d + 1) l c 1 (1 + 0 + n21) Ar ns (asCells 6 ⟨#[]⟩ none 0 0 (some ⟨w21.heap.size, 0, none⟩) 1 1) rfl HSF.out rfl HY25.out rfl (asCells_one _ _ _ _ _ _ _ _) HST.out (by omega) hwf ?_; intro A3 c3 w26 hgrow hplace hst7; have HMF := Lib.hid (HM25.out.drop.rows HSF.out (Nat.le_refl _) (fun p hp => absurd hp (by simp)) hgrow); have HSL := Lib.hid hst7; clear hgrow hplace hst7; refine hK _ _ ?_))
    refine HR.out _ _ ?_
    exact ⟨_, _, _, _, _, _, _, _, _, _, _, _, _, _, _, _, _, _, _, _, _, _, _, _, _, _, _, _, _, _, _, _, _, _, _, _, _, _, _, _, _, _, _, _, _, _, _, _, _, _, _, _, _, _, _, _, _, _, _, _, _, _, _, _, _, _, _, _, _, _, _, _, _, _, _, _, _, _, _, _, _, _, _, _, _, _, _, _, _, _, _, _, _, _, _, _, _, _, _, _, _, _, _, _, _, _, _, _, _, _, _, _, _, _, _, _, _, _, _, _, _, _, _, _, _, _, _, _, _, _, _, _, _, _, _, _, _, _, _, _, _, _, _, _, _, _, _, _, _, _, _, _, _, _, _, _, _, _, _, _, _, _, _, _, _, _, _, _, _, _, _, _, _, _, _, _, _, _, _, _, _, _, _, _, _, _, _, _, _, _, _, _, _, _, _, _, _, _, _, _, _, _, _, _, _, _, _, _, _, _, _, _, _, _, _, _, _, _, _, _, _, _, _, _, _, _, _, _, _, _, _, _, _, _, _, _, _, _, _, _, _, _, _, _, _, _, _, _, _, l + 1, c3, A3, ns ++ [1 + 0 + n21], _, rfl, by omega, HSL.out, HKF.out, by dsimp only; omega, by dsimp only; omega, by rw [List.sum_append]; simp only [List.sum_cons, List.sum_nil]; (try dsimp only); omega, HMF.out⟩
   ·have HM20 : Hid (Mks lo B ⟨M, T, f, funcs, count1, left4, P, S1, Q1, R1, pl, pc, sl1, sc1, ql1, qc1, rl1, rc1, A, len, cap⟩ w [(w11.heap.size, asCells 6 fn none 0 0 A' l' c')] w20) := Lib.hid ⟨hc3, HM13.out.went.x HM13.out.cx hgx3 HM13.out.low, HM13.out.lo0, fun p hp => by
     simp only [List.mem_cons, List.not_mem_nil, or_false] at hp
     subst hp
     exact ⟨HM13.out.low, hX3⟩⟩
    have HX20 : Hid (KeptX w4 w20) := Lib.hid (HX13.out.grewX hgx3 HM13.out.cx (show w4.heap.size ≤ w11.heap.size by omega))
    have HEa20 : Hid (ExRow w20 A' l' c' nc) := Lib.hid hrow3
    have hz20 := hgx3.size
    clear hc3 hX3 hrow3 hgx3
    obtain ⟨w27, hw27⟩ : ∃ W, Hid (w20.alloc (.cells (#[.int .i64 6, .int .i64 0, .int .i64 0, .string ⟨#[]⟩, .string ⟨#[]⟩, .int .i64 0, .int .i64 0, .slice none 0 0, .string fn, .int .i64 0, .slice A' l' c', .slice none 0 0, .slice none 0 0]) 75) = W) := ⟨_, Lib.hid rfl⟩
    have hb : Below w20.heap.size w20 w27 := by rw [← hw27.out]; exact (Below.refl _ _).alloc (Nat.le_refl _) _
    have HY27 : Hid (w27.heap[w20.heap.size]? = some (.cells (asCells 6 fn none 0 0 A' l' c') 75 (0, 0))) := Lib.hid (by rw [← hw27.out]; exact Array.getElem?_push_size)
    have hkx := KeptX.below hb
    have HM27 := Lib.hid (HM20.out.below hb)
    have HX27 := Lib.hid (HX20.out.trans' hkx)
    have HEa27 := Lib.hid (HEa20.out.keep hkx.e)
    have hz27 := hb.size
    clear hkx
    clear hb
    have HSF := Lib.hid (HS4.out.kept HX27.out)
    have hST : StIn w27 (fun b => w.heap.size ≤ b ∧ some b ≠ blk Ar) (d + 1) (.agg (asCells 6 fn none 0 0 A' l' c')) (1 + 0 + nc.sum) := stIn_plain (kind := 6) ⟨by omega, by omega, .inl rfl⟩ hfn (ExRow.nil _) HEa27.out rfl rfl _ d
    have HST := Lib.hid hST
    have hwf : w.heap.size ≤ w27.heap.size := HM27.out.went.size
    clear hST
    go_wp2_with (first | (((with_reducible show wpList _ _ _ (Oper.mk _ (Op.load 75 _) _ _ _ none :: _) _ _); (refine load_stmt rfl _ rfl (w11.heap.size) (#[.int .i64 6, .int .i64 0, .int .i64 0, .string ⟨#[]⟩, .string ⟨#[]⟩, .int .i64 0, .int .i64 0, .slice none 0 0, .string fn, .int .i64 0, .slice A' l' c', .slice none 0 0, .slice none 0 0]) rfl HM20.out.head rfl ?_))) | (at_builtin; rw [hw27.out]; refine wpList_plain rfl (fun K hK => ?_); refine wp_append_one _ _ rfl w.heap.size (w20.heap.size) (d + 1) l c 1 (1 + 0 + nc.sum) Ar ns (asCells 6 fn none 0 0 A' l' c') rfl HSF.out rfl HY27.out rfl (asCells_one _ _ _ _ _ _ _ _) HST.out (by omega) hwf ?_; intro A3 c3 w28 hgrow hplace hst7; have HMF := Lib.hid (HM27.out.drop.rows HSF.out (Nat.le_refl _) (fun p hp => absurd hp (by simp)) hgrow); have HSL := Lib.hid hst7; clear hgrow hplace hst7; refine hK _ _ ?_))
    refine HR.out _ _ ?_
    exact ⟨_, _, _, _, _, _, _, _, _, _, _, _, _, _, _, _, _, _, _, _, _, _, _, _, _, _, _, _, _, _, _, _, _, _, _, _, _, _, _, _, _, _, _, _, _, _, _, _, _, _, _, _, _, _, _, _, _, _, _, _, _, _, _, _, _, _, _, _, _, _, _, _, _, _, _, _, _, _, _, _, _, _, _, _, _, _, _, _, _, _, _, _, _, _, _, _, _, _, _, _, _, _, _, _, _, _, _, _, _, _, _, _, _, _, _, _, _, _, _, _, _, _, _, _, _, _, _, _, _, _, _, _, _, _, _, _, _, _, _, _, _, _, _, _, _, _, _, _, _, _, _, _, _, _, _, _, _, _, _, _, _, _, _, _, _, _, _, _, _, _, _, _, _, _, _, _, _, _, _, _, _, _, _, _, _, _, _, _, _, _, _, _, _, _, _, _, _, _, _, _, _, _, _, _, _, _, _, _, _, _, _, _, _, _, _, _, _, _, _, _, _, _, _, _, _, _, _, _, _, _, _, _, _, _, _, _, _, _, _, _, _, _, _, _, _, _, _, _, _, l + 1, c3, A3, ns ++ [1 + 0 + nc.sum], _, rfl, by omega, HSL.out, HKF.out, by dsimp only; omega, by dsimp only; omega, by rw [List.sum_append]; simp only [List.sum_cons, List.sum_nil]; (try dsimp only); omega, HMF.out⟩
 ·have e0 := HM11.out.cx.maker.cell 0 (.pointer (some ⟨T, 0, none⟩)) rfl
  dsimp only at e0
  go_wp2_with fail
  refine (assign_any B ⟨M, T, f, funcs, count1, left4, P, S1, Q1, R1, pl, pc, sl1, sc1, ql1, qc1, rl1, rc1, A, len, cap⟩ w11 HM11.out.cx).mono ?_
  rintro e w29 ⟨kd, fn, A1a, l1a, c1a, A2a, l2a, c2a, na, nb, rfl, hkd, hfn, hra, hrb, hsm, hc, hw⟩
  have hkx := hw.keptX
  have HM29 := Lib.hid (HM11.out.turned hc hw)
  have HX29 := Lib.hid (HX11.out.trans' hkx)
  have hz29 := hw.size
  clear hkx
  have HEa := Lib.hid hra
  have HEb := Lib.hid hrb
  clear hra hrb hc hw
  unfold asCells
  obtain ⟨w30, hw30⟩ : ∃ W, Hid (w29.alloc (.cells (#[.int .i64 (kd : Int), .int .i64 0, .int .i64 0, .string ⟨#[]⟩, .string ⟨#[]⟩, .int .i64 0, .int .i64 0, .slice A1a l1a c1a, .string fn, .int .i64 0, .slice A2a l2a c2a, .slice none 0 0, .slice none 0 0]) 75) = W) := ⟨_, Lib.hid rfl⟩
  have hb : Below w29.heap.size w29 w30 := by rw [← hw30.out]; exact (Below.refl _ _).alloc (Nat.le_refl _) _
  have HY30 : Hid (w30.heap[w29.heap.size]? = some (.cells (asCells kd fn A1a l1a c1a A2a l2a c2a) 75 (0, 0))) := Lib.hid (by rw [← hw30.out]; exact Array.getElem?_push_size)
  have hkx := KeptX.below hb
  have HM30 := Lib.hid (HM29.out.below hb)
  have HX30 := Lib.hid (HX29.out.trans' hkx)
  have HEa30 := Lib.hid (HEa.out.keep hkx.e)
  have HEb30 := Lib.hid (HEb.out.keep hkx.e)
  have hz30 := hb.size
  clear hkx
  clear hb
  have HSF := Lib.hid (HS4.out.kept HX30.out)
  have hST : StIn w30 (fun b => w.heap.size ≤ b ∧ some b ≠ blk Ar) (d + 1) (.agg (asCells kd fn A1a l1a c1a A2a l2a c2a)) (1 + na.sum + nb.sum) := stIn_plain hkd hfn HEa30.out HEb30.out rfl rfl _ d
  have HST := Lib.hid hST
  have hwf : w.heap.size ≤ w30.heap.size := HM30.out.went.size
  clear hST
  go_wp2_with (at_builtin; rw [hw30.out]; refine wpList_plain rfl (fun K hK => ?_); refine wp_append_one _ _ rfl w.heap.size (w29.heap.size) (d + 1) l c 1 (1 + na.sum + nb.sum) Ar ns (asCells kd fn A1a l1a c1a A2a l2a c2a) rfl HSF.out rfl HY30.out rfl (asCells_one _ _ _ _ _ _ _ _) HST.out (by omega) hwf ?_; intro A3 c3 w31 hgrow hplace hst7; have HMF := Lib.hid (HM30.out.rows HSF.out (Nat.le_refl _) (fun p hp => absurd hp (by simp)) hgrow); have HSL := Lib.hid hst7; clear hgrow hplace hst7; refine hK _ _ ?_)
  refine HR.out _ _ ?_
  exact ⟨_, _, _, _, _, _, _, _, _, _, _, _, _, _, _, _, _, _, _, _, _, _, _, _, _, _, _, _, _, _, _, _, _, _, _, _, _, _, _, _, _, _, _, _, _, _, _, _, _, _, _, _, _, _, _, _, _, _, _, _, _, _, _, _, _, _, _, _, _, _, _, _, _, _, _, _, _, _, _, _, _, _, _, _, _, _, _, _, _, _, _, _, _, _, _, _, _, _, _, _, _, _, _, _, _, _, _, _, _, _, _, _, _, _, _, _, _, _, _, _, _, _, _, _, _, _, _, _, _, _, _, _, _, _, _, _, _, _, _, _, _, _, _, _, _, _, _, _, _, _, _, _, _, _, _, _, _, _, _, _, _, _, _, _, _, _, _, _, _, _, _, _, _, _, _, _, _, _, _, _, _, _, _, _, _, _, _, _, _, _, _, _, _, _, _, _, _, _, _, _, _, _, _, _, _, _, _, _, _, _, _, _, _, _, _, _, _, _, _, _, _, _, _, _, _, _, _, _, _, _, _, _, _, _, _, _, _, _, _, _, _, _, _, _, _, _, _, _, _, l + 1, c3, A3, ns ++ [1 + na.sum + nb.sum], _, rfl, by omega, HSL.out, HKF.out, by dsimp only; omega, by dsimp only; omega, by rw [List.sum_append]; simp only [List.sum_cons, List.sum_nil]; (try dsimp only); omega, HMF.out⟩
end Go.Proofs.YtchibamdkaejdaaDoor
namespace Go.Proofs.YtchibamdkaejdaaDoor
open Go.RowKit
variable {lo : Nat}

set_option linter.unusedSimpArgs false in
set_option linter.unusedVariables false in
set_option maxHeartbeats 0 in
set_option maxRecDepth 100000 in
theorem sw_try (B : Nat) (nest d : Nat) (w w4 : World) (most k l c : Nat) (M T : Nat) (f funcs count0 left0 count1 left1 left4 r : Int) (P S0 Q0 R0 S1 Q1 R1 Ar : Option Addr) (pl pc sl0 sc0 ql0 qc0 rl0 rc0 sl1 sc1 ql1 qc1 rl1 rc1 : Nat) (A : Option Addr) (len cap : Nat) (ns : List Nat) (hnest : nest ≤ 4) (HIH : Hid (nest < 4 → BodyAt (nest + 1) d)) (HIL : Hid (nest < 4 → LoopAt nest d)) (H0 : Hid (M < w.heap.size)) (hmost : most ≤ 10) (hlt : k < most) (hl : l ≤ 2 * k) (hz4 : w.heap.size ≤ w4.heap.size) (hr0 : 0 ≤ r) (hr1 : r < 16) (hleft : left1 ≤ left0) (hcl : count1 + left1 ≤ count0 + left0) (hsum : (ns.sum : Int) ≤ 100 * (left0 - left1)) (hleft4 : left1 = left4 + 1) (n1 : 0 ≤ count1) (n2 : 0 ≤ left4) (n3 : count1 + left4 ≤ 21) (HKF : Hid (Kin ⟨M, T, f, funcs, count0, left0, P, S0, Q0, R0, pl, pc, sl0, sc0, ql0, qc0, rl0, rc0, A, len, cap⟩ ⟨M, T, f, funcs, count1, left4, P, S1, Q1, R1, pl, pc, sl1, sc1, ql1, qc1, rl1, rc1, A, len, cap⟩)) (HM4 : Hid (Mks lo B ⟨M, T, f, funcs, count1, left4, P, S1, Q1, R1, pl, pc, sl1, sc1, ql1, qc1, rl1, rc1, A, len, cap⟩ w [] w4)) (HS4 : Hid (StsAt w4 w.heap.size (d + 1) Ar l c ns)) {x3 x4 x5 x6 x10 x11 x12 x13 x14 x15 x16 x17 x18 x19 x20 x21 x22 x23 x24 x25 x26 x27 x28 x29 x30 x31 x32 x33 x34 x35 x36 x37 x38 x39 x40 x41 x42 x43 x44 x45 x46 x47 x48 x49 x50 x51 x52 x53 x54 x55 x56 x57 x58 x59 x60 x61 x62 x63 x64 x65 x66 x67 x68 x69 x70 x71 x72 x73 x74 x75 x76 x77 x78 x79 x80 x81 x82 x83 x84 x85 x86 x87 x88 x89 x90 x91 x92 x93 x94 x95 x96 x97 x98 x99 x100 x101 x102 x103 x104 x105 x106 x107 x108 x109 x110 x111 x112 x113 x114 x115 x116 x117 x118 x119 x120 x121 x122 x123 x124 x125 x126 x127 x128 x129 x130 x131 x132 x133 x134 x135 x136 x137 x138 x139 x140 x141 x142 x143 x144 x145 x146 x147 x148 x149 x150 x151 x152 x153 x154 x155 x156 x157 x158 x159 x160 x161 x162 x163 x164 x165 x166 x167 x168 x169 x170 x171 x172 x173 x174 x175 x176 x177 x178 x179 x180 x181 x182 x183 x184 x185 x186 x187 x188 x189 x190 x191 x192 x193 x194 x195 x196 x197 x198 x199 x200 x201 x202 x203 x204 x205 x206 x207 x208 x209 x210 x211 x212 x213 x214 x215 x216 x217 x218 x219 x220 x221 x222 x223 x224 x225 x226 x227 x228 x229 x230 x231 x232 x233 x234 x235 x236 x237 x238 x239 x240 x241 x242 x243 x244 x245 x246 x247 x248 x249 x250 x251 x252 x253 x254 x255 x256 x257 x258 : Value} (R : Exit → Act → World → Prop) (hR : ∀ a' w', SwEnd lo B w M nest most k l d left0 count0 ⟨M, T, f, funcs, count0, left0, P, S0, Q0, R0, pl, pc, sl0, sc0, ql0, qc0, rl0, rc0, A, len, cap⟩ x3 x4 x5 x6 x258 a' w' → R .normal a' w') (hRp : ∀ c (a : Act) (d : Nat) (v : Value) w, R (.panic c) (a.put (some d) v) w → R (.panic c) a w) (hcase : (r = 5 ∧ nest < 4 ∧ count1 < 14)) : Code.wp Tryd.prog swBlock R ⟨#[.pointer (some ⟨M, 0, none⟩), .int .i64 nest, .int .i64 most, x3, x4, x5, x6, .slice Ar l c, .int .i64 k, .int .i64 r, x10, x11, x12, x13, x14, x15, x16, x17, x18, x19, x20, x21, x22, x23, x24, x25, x26, x27, x28, x29, x30, x31, x32, x33, x34, x35, x36, x37, x38, x39, x40, x41, x42, x43, x44, x45, x46, x47, x48, x49, x50, x51, x52, x53, x54, x55, x56, x57, x58, x59, x60, x61, x62, x63, x64, x65, x66, x67, x68, x69, x70, x71, x72, x73, x74, x75, x76, x77, x78, x79, x80, x81, x82, x83, x84, x85, x86, x87, x88, x89, x90, x91, x92, x93, x94, x95, x96, x97, x98, x99, x100, x101, x102, x103, x104, x105, x106, x107, x108, x109, x110, x111, x112, x113, x114, x115, x116, x117, x118, x119, x120, x121, x122, x123, x124, x125, x126, x127, x128, x129, x130, x131, x132, x133, x134, x135, x136, x137, x138, x139, x140, x141, x142, x143, x144, x145, x146, x147, x148, x149, x150, x151, x152, x153, x154, x155, x156, x157, x158, x159, x160, x161, x162, x163, x164, x165, x166, x167, x168, x169, x170, x171, x172, x173, x174, x175, x176, x177, x178, x179, x180, x181, x182, x183, x184, x185, x186, x187, x188, x189, x190, x191, x192, x193, x194, x195, x196, x197, x198, x199, x200, x201, x202, x203, x204, x205, x206, x207, x208, x209, x210, x211, x212, x213, x214, x215, x216, x217, x218, x219, x220, x221, x222, x223, x224, x225, x226, x227, x228, x229, x230, x231, x232, x233, x234, x235, x236, x237, x238, x239, x240, x241, x242, x243, x244, x245, x246, x247, x248, x249, x250, x251, x252, x253, x254, x255, x256, x257, x258], []⟩ w4 := by
 have HR := Lib.hid hR
 clear hR
 have HX4 := Lib.hid (KeptX.id w4)
 have hww := hz4
 have hz4 : w4.heap.size ≤ w4.heap.size := Nat.le_refl _
 have hk : k ≤ most := by omega
 have e0 := HM4.out.cx.maker.cell 0 (.pointer (some ⟨T, 0, none⟩)) rfl
 have e7 := HM4.out.cx.maker.cell 7 (.int .i64 count1) rfl
 dsimp only at e0 e7
 obtain ⟨_, _, _, n4, n5, n6, n7, n8, n9⟩ := HM4.out.cx.num
 dsimp only at n4 n5 n6 n7 n8 n9
 obtain ⟨rfl, hlt4, hct⟩ := hcase
 simp only [swBlock, cFst, cSnd, cIn, Tryd.f26, Option.getD]
 obtain ⟨w11, hw11⟩ : ∃ W, Hid (w4.alloc (.cells (#[.int .i64 8, .int .i64 0, .int .i64 0, .string ⟨#[]⟩, .string ⟨#[]⟩, .int .i64 0, .int .i64 0, .slice none 0 0, .string ⟨#[]⟩, .int .i64 0, .slice none 0 0, .slice none 0 0, .slice none 0 0]) 75) = W) := ⟨_, Lib.hid rfl⟩
 have hb : Below w4.heap.size w4 w11 := by rw [← hw11.out]; exact (Below.refl _ _).alloc (Nat.le_refl _) _
 have hkx := KeptX.below hb
 have HM11 : Hid (Mks lo B ⟨M, T, f, funcs, count1, left4, P, S1, Q1, R1, pl, pc, sl1, sc1, ql1, qc1, rl1, rc1, A, len, cap⟩ w [(w4.heap.size, cmCells 8 ⟨#[]⟩ none 0 0 none 0 0 none 0 0)] w11) := Lib.hid (by rw [← hw11.out]; exact HM4.out.more _)
 have HX11 := Lib.hid (HX4.out.trans' hkx)
 have hz11 := hb.size
 clear hkx
 have hX11 : w4.heap.size ≤ w4.heap.size := by have := hz4; omega
 clear hb
 go_wp2_with fail
 rw [hw11.out]
 have hwx12 := HM11.out.lt
 refine (HIH.out hlt4 B ⟨M, T, f, funcs, count1, left4, P, S1, Q1, R1, pl, pc, sl1, sc1, ql1, qc1, rl1, rc1, A, len, cap⟩ w11 4 (by omega) HM11.out.cx).mono ?_
 rintro e w12 ⟨A12r, l12r, c12r, ns12, m12, rfl, hst, hl12r, hkin, hsl12, hql12, hrl12, hleft12, hcl12, hsum12, hc, hw⟩
 obtain ⟨M12, T12, f12, funcs12, count12, left12, P12, S12, Q12, R12, pl12, pc12, sl12, sc12, ql12, qc12, rl12, rc12, A12, len12, cap12⟩ := m12
 have hk12 := hkin
 obtain ⟨z1, z2, z3, z4, z5, z6, z7, z8, z9, z10⟩ := hk12.lets
 dsimp only at z1 z2 z3 z4 z5 z6 z7 z8 z9 z10
 subst z1 z2 z3 z4 z5 z6 z7 z8 z9 z10
 dsimp only at hsl12 hql12 hrl12 hleft12 hcl12 hsum12
 have HK12 := Lib.hid hk12
 have HLS12 := Lib.hid hsl12
 clear hk12 hsl12 hql12 hrl12
 have hkx := hw.keptX
 have HM12 := Lib.hid (HM11.out.turned hc hw)
 have HX12 := Lib.hid (HX11.out.trans' hkx)
 have hz12 := hw.size
 clear hkx
 have HBb12 := Lib.hid hst
 clear hst hkin hc hw
 have HKF := Lib.hid (HKF.out.trans HK12.out)
 clear HK12
 have x11 := HM12.out.cell 11 (.slice none 0 0) rfl
 have fx11 := HM12.out.frozen 11
 obtain ⟨w13, hw13⟩ : ∃ W, Hid (w12.setCell ⟨w4.heap.size, 11, none⟩ (.slice A12r l12r c12r) = W) := ⟨_, Lib.hid rfl⟩
 have hset := setB_cell (o := 11) (.slice A12r l12r c12r) HM12.out.head
 have hset : SetB (w4.heap.size) (cmCells 8 ⟨#[]⟩ none 0 0 A12r l12r c12r none 0 0) 75 w12 w13 := by rw [← hw13.out]; exact hset
 have HM13 := Lib.hid (HM12.out.setB hset (fun p hp => absurd hp (by simp)))
 have HX13 := Lib.hid (HX12.out.setB hset hX11)
 have HBb13 := Lib.hid (HBb12.out.setB HM12.out.head hset hwx12)
 have hz13 := Nat.le_of_eq hset.size.symm
 have HQ13 := Lib.hid hset.size
 clear hset
 have HKB := HKF
 obtain ⟨m1, m2, m3, m4, m5, m6, m7, m8, m9⟩ := HM13.out.cx.num
 dsimp only at m1 m2 m3 m4 m5 m6 m7 m8 m9
 obtain ⟨cn, hcn⟩ : ∃ cn : Nat, count12 = (cn : Int) := ⟨count12.toNat, by omega⟩
 subst hcn
 go_wp2_with fail
 rw [hw13.out]
 refine (fresh_any w13 M T f funcs cn left12 P S12 Q12 R12 pl pc sl12 sc12 ql12 qc12 rl12 rc12 HM13.out.cx.maker (by omega)).mono ?_
 rintro e w14 ⟨nm, rfl, hnm, hmk, hbs⟩
 obtain ⟨hc, hw⟩ := HM13.out.cx.turn (count := (cn + 1 : Nat)) (left := left12) hbs hmk HM13.out.cx.s HM13.out.cx.q HM13.out.cx.r HM13.out.cx.sq HM13.out.cx.sr HM13.out.cx.qr ⟨by show (0 : Int) ≤ ((cn + 1 : Nat) : Int); omega, m2, by show ((cn + 1 : Nat) : Int) + left12 ≤ 22; omega, by show (sl12 : Int) ≤ 4 + ((cn + 1 : Nat) : Int); omega, by show (ql12 : Int) ≤ ((cn + 1 : Nat) : Int); omega, by show (rl12 : Int) ≤ ((cn + 1 : Nat) : Int); omega, m7, m8, m9⟩
 dsimp only at hc
 have hkx := hw.keptX
 have HM14 := Lib.hid (HM13.out.turned hc hw)
 have HX14 := Lib.hid (HX13.out.trans' hkx)
 have HBb14 := Lib.hid (HBb13.out.kept hkx)
 have hz14 := hw.size
 clear hkx
 clear hc hw hmk hbs
 have x3 := HM14.out.cell 3 (.string ⟨#[]⟩) rfl
 have fx3 := HM14.out.frozen 3
 obtain ⟨w15, hw15⟩ : ∃ W, Hid (w14.setCell ⟨w4.heap.size, 3, none⟩ (.string nm) = W) := ⟨_, Lib.hid rfl⟩
 have hset := setB_cell (o := 3) (.string nm) HM14.out.head
 have hset : SetB (w4.heap.size) (cmCells 8 nm none 0 0 A12r l12r c12r none 0 0) 75 w14 w15 := by rw [← hw15.out]; exact hset
 have HM15 := Lib.hid (HM14.out.setB hset (fun p hp => absurd hp (by simp)))
 have HX15 := Lib.hid (HX14.out.setB hset hX11)
 have HBb15 := Lib.hid (HBb14.out.setB HM14.out.head hset hwx12)
 have hz15 := Nat.le_of_eq hset.size.symm
 have HQ15 := Lib.hid hset.size
 clear hset
 go_wp2_with fail
 rw [hw15.out]
 obtain ⟨w16, hw16⟩ : ∃ W, Hid (w15.drew = W) := ⟨_, Lib.hid rfl⟩
 have hb : Below w15.heap.size w15 w16 := by rw [← hw16.out]; exact ⟨rfl, rfl, rfl, Nat.le_refl _, fun _ _ => rfl⟩
 have hkx := KeptX.below hb
 have HM16 := Lib.hid (HM15.out.below hb)
 have HX16 := Lib.hid (HX15.out.trans' hkx)
 have HBb16 := Lib.hid (HBb15.out.kept hkx)
 have hz16 := hb.size
 clear hkx
 clear hb
 have hsl12x : sl12 ≤ 1000 := by omega
 have HL3 : Hid (w16.cell? ⟨M, 4, none⟩ = some (.slice S12 sl12 sc12) ∧ w16.cell? ⟨w4.heap.size, 3, none⟩ = some (.string nm)) := Lib.hid (show _ ∧ _ from ⟨HM16.out.cx.maker.cell 4 (.slice S12 sl12 sc12) rfl, HM16.out.cell 3 (.string nm) rfl⟩)
 refine wp_region_U (S := fun w' => w'.cell? ⟨M, 4, none⟩ = some (.slice S12 sl12 sc12) ∧ w'.cell? ⟨w4.heap.size, 3, none⟩ = some (.string nm)) (L := [4, 6, 7, 8]) (by kernel_rfl) ?_
 rw [hw16.out]
 refine wpAnyU_late (i := 0) (v := ?_) rfl (by kernel_rfl) (by kernel_rfl) (by kernel_rfl) (by kernel_rfl) (fun _ _ _ h => hRp _ _ _ _ _ h) (Or.inl ⟨by rfl, ?_⟩) ?_
 rotate_left 1
 ·intro w hSw
  clear hSw
  (go_simp) <;> (with_reducible rfl)
 (try simp only [Act.put, zA, zB, zC, zD, zE, zF])
 refine wpAnyU_late (i := 1) (v := ?_) rfl (by kernel_rfl) (by kernel_rfl) (by kernel_rfl) (by kernel_rfl) (fun _ _ _ h => hRp _ _ _ _ _ h) (Or.inl ⟨by rfl, ?_⟩) ?_
 rotate_left 1
 ·intro w hSw
  clear hSw
  (go_simp) <;> (with_reducible rfl)
 (try simp only [Act.put, zA, zB, zC, zD, zE, zF])
 refine wpAnyU_late (i := 2) (v := ?_) rfl (by kernel_rfl) (by kernel_rfl) (by kernel_rfl) (by kernel_rfl) (fun _ _ _ h => hRp _ _ _ _ _ h) (Or.inl ⟨by rfl, ?_⟩) ?_
 rotate_left 1
 ·intro w hSw
  clear hSw
  (go_simp) <;> (with_reducible rfl)
 (try simp only [Act.put, zA, zB, zC, zD, zE, zF])
 refine wpAnyU_late (i := 3) (v := ?_) rfl (by kernel_rfl) (by kernel_rfl) (by kernel_rfl) (by kernel_rfl) (fun _ _ _ h => hRp _ _ _ _ _ h) (Or.inl ⟨by rfl, ?_⟩) ?_
 rotate_left 1
 ·intro w hSw
  clear hSw
  (go_simp) <;> (with_reducible rfl)
 (try simp only [Act.put, zA, zB, zC, zD, zE, zF])
 refine wpAnyU_late (i := 5) (v := ?_) rfl (by kernel_rfl) (by kernel_rfl) (by kernel_rfl) (by kernel_rfl) (fun _ _ _ h => hRp _ _ _ _ _ h) (Or.inl ⟨by rfl, ?_⟩) ?_
 rotate_left 1
 ·intro w hSw
  clear hSw
  (go_simp) <;> (with_reducible rfl)
 (try simp only [Act.put, zA, zB, zC, zD, zE, zF])
 refine wpAnyU_take (i := 4) (v := ?_) rfl (by kernel_rfl) (by kernel_rfl) (by kernel_rfl) (by kernel_rfl) (by kernel_rfl) (fun _ _ _ h => hRp _ _ _ _ _ h) (Or.inl ⟨by rfl, ?_⟩) HL3.out ?_
 rotate_left 1
 ·intro w hSw
  (try dsimp only at hSw)
  (go_simp) <;> (with_reducible rfl)
 (try simp only [Act.put, zA, zB, zC, zD, zE, zF])
 refine wpAnyU_take (i := 6) (v := ?_) rfl (by kernel_rfl) (by kernel_rfl) (by kernel_rfl) (by kernel_rfl) (by kernel_rfl) (fun _ _ _ h => hRp _ _ _ _ _ h) (Or.inl ⟨by rfl, ?_⟩) HL3.out ?_
 rotate_left 1
 ·intro w hSw
  (try dsimp only at hSw)
  (go_simp) <;> (with_reducible rfl)
 (try simp only [Act.put, zA, zB, zC, zD, zE, zF])
 refine wpAnyU_ready (rs := [7]) (by kernel_rfl) (by simp) (AllU.cons rfl (fun K hK => ?_) AllU.nil)
 go_simp
 obtain ⟨w17, hw17⟩ : ∃ W, Hid (w16.alloc (.cells #[.string nm] 9) = W) := ⟨_, Lib.hid rfl⟩
 have hb : Below w16.heap.size w16 w17 := by rw [← hw17.out]; exact (Below.refl _ _).alloc (Nat.le_refl _) _
 have HYN : Hid (w17.cell? ⟨w16.heap.size, 0, none⟩ = some (.string nm)) := Lib.hid (by rw [← hw17.out, World.cell?_alloc_at _ _ _ _ rfl]; rfl)
 have hkx := KeptX.below hb
 have HM17 := Lib.hid (HM16.out.below hb)
 have HX17 := Lib.hid (HX16.out.trans' hkx)
 have HBb17 := Lib.hid (HBb16.out.kept hkx)
 have hz17 := hb.size
 clear hkx
 clear hb
 rw [hw17.out]
 refine hK.out _ _ (fun _ => (show _ ∧ _ from ⟨HM17.out.cx.maker.cell 4 (.slice S12 sl12 sc12) rfl, HM17.out.cell 3 (.string nm) rfl⟩)) ?_
 clear hK K
 (try simp only [Act.put, zA, zB, zC, zD, zE, zF])
 refine wpAnyU_ready (rs := [8]) (by kernel_rfl) (by simp) (AllU.cons rfl (fun K hK => ?_) AllU.nil)
 rw [if_pos (by rfl)]
 refine wp_append_name _ _ rfl B S12 sl12 sc12 w16.heap.size 1 nm rfl HM17.out.cx.s rfl HYN.out hnm hsl12x HM17.out.cx.lt ?_
 intro A5 c5 w18 hown hgrow hplace
 obtain ⟨kM, fM, hc, hw⟩ := HM17.out.cx.pushS hgrow hown hplace ⟨by show (0 : Int) ≤ ((cn + 1 : Nat) : Int); omega, m2, by show ((cn + 1 : Nat) : Int) + left12 ≤ 22; omega, by show ((sl12 + 1 : Nat) : Int) ≤ 4 + ((cn + 1 : Nat) : Int); omega, by show ((ql12 : Nat) : Int) ≤ ((cn + 1 : Nat) : Int); omega, by show ((rl12 : Nat) : Int) ≤ ((cn + 1 : Nat) : Int); omega, m7, m8, m9⟩
 dsimp only at kM fM hc hw
 obtain ⟨w19, hw19⟩ : ∃ W, Hid (w18.setCell ⟨M, 4, none⟩ (.slice A5 (sl12 + 1) c5) = W) := ⟨_, Lib.hid rfl⟩
 rw [hw19.out] at hc hw
 have hkx := hw.keptX
 have HM19 := Lib.hid (HM17.out.turned hc hw)
 have HX19 := Lib.hid (HX17.out.trans' hkx)
 have HBb19 := Lib.hid (HBb17.out.kept hkx)
 have hz19 := hw.size
 clear hkx
 clear hc hw hown hgrow hplace
 have HKF : Hid (Kin ⟨M, T, f, funcs, count0, left0, P, S0, Q0, R0, pl, pc, sl0, sc0, ql0, qc0, rl0, rc0, A, len, cap⟩ ⟨M, T, f, funcs, (cn + 1 : Nat), left12, P, A5, Q12, R12, pl, pc, (sl12 + 1), c5, ql12, qc12, rl12, rc12, A, len, cap⟩) := Lib.hid ⟨rfl, rfl, rfl, rfl, rfl, rfl, rfl, rfl, rfl, rfl, by have a1 := HKF.out.s; dsimp only at a1 ⊢; omega, HKF.out.q, HKF.out.r, by have a1 := HKF.out.count; dsimp only at a1 ⊢; omega⟩
 have hXM : w4.heap.size ≠ M := by have := H0.out; omega
 have x3w : w18.cell? ⟨w4.heap.size, 3, none⟩ = some (.string nm) := by
  rw [← (World.cell?_of_block (w := w18) (a := ⟨w4.heap.size, 3, none⟩) (w' := w19) (by rw [← hw19.out]; exact heap_setCell_other w18 ⟨M, 4, none⟩ (w4.heap.size) _ hXM))]
  exact HM19.out.cell 3 (.string nm) rfl
 refine hK.out _ _ (fun _ => ⟨kM, x3w⟩) ?_
 clear hK K x3w
 (try simp only [Act.put, zA, zB, zC, zD, zE, zF])
 refine wpAnyU_late (i := 9) (v := ?_) rfl (by kernel_rfl) (by kernel_rfl) (by kernel_rfl) (by kernel_rfl) (fun _ _ _ h => hRp _ _ _ _ _ h) (Or.inl ⟨by rfl, ?_⟩) ?_
 rotate_left 1
 ·intro w hSw
  clear hSw
  (go_simp) <;> (with_reducible rfl)
 (try simp only [Act.put, zA, zB, zC, zD, zE, zF])
 refine wpAnyU_late (i := 10) (v := ?_) rfl (by kernel_rfl) (by kernel_rfl) (by kernel_rfl) (by kernel_rfl) (fun _ _ _ h => hRp _ _ _ _ _ h) (Or.inl ⟨by rfl, ?_⟩) ?_
 rotate_left 1
 ·intro w hSw
  clear hSw
  (go_simp) <;> (with_reducible rfl)
 (try simp only [Act.put, zA, zB, zC, zD, zE, zF])
 refine wpAnyU_ready (rs := [11]) (by kernel_rfl) (by simp) (AllU.cons rfl (fun K hK => ?_) AllU.nil)
 go_simp
 rw [hw19.out]
 refine hK.out _ _ (fun hh => absurd hh (by decide)) ?_
 clear hK K kM fM
 refine wpAnyU_done (by kernel_rfl) ?_ _
 go_wp2_with fail
 have hwx20 := HM19.out.lt
 refine (HIH.out hlt4 B ⟨M, T, f, funcs, (cn + 1 : Nat), left12, P, A5, Q12, R12, pl, pc, (sl12 + 1), c5, ql12, qc12, rl12, rc12, A, len, cap⟩ w19 3 (by omega) HM19.out.cx).mono ?_
 rintro e w20 ⟨A20r, l20r, c20r, ns20, m20, rfl, hst, hl20r, hkin, hsl20, hql20, hrl20, hleft20, hcl20, hsum20, hc, hw⟩
 obtain ⟨M20, T20, f20, funcs20, count20, left20, P20, S20, Q20, R20, pl20, pc20, sl20, sc20, ql20, qc20, rl20, rc20, A20, len20, cap20⟩ := m20
 have hk20 := hkin
 obtain ⟨z1, z2, z3, z4, z5, z6, z7, z8, z9, z10⟩ := hk20.lets
 dsimp only at z1 z2 z3 z4 z5 z6 z7 z8 z9 z10
 subst z1 z2 z3 z4 z5 z6 z7 z8 z9 z10
 dsimp only at hsl20 hql20 hrl20 hleft20 hcl20 hsum20
 have HK20 := Lib.hid hk20
 have HLS20 := Lib.hid hsl20
 clear hk20 hsl20 hql20 hrl20
 have hkx := hw.keptX
 have HM20 := Lib.hid (HM19.out.turned hc hw)
 have HX20 := Lib.hid (HX19.out.trans' hkx)
 have HBb20 := Lib.hid (HBb19.out.kept hkx)
 have hz20 := hw.size
 clear hkx
 have HBc20 := Lib.hid hst
 clear hst hkin hc hw
 have HKF := Lib.hid (HKF.out.trans HK20.out)
 clear HK20
 have x12 := HM20.out.cell 12 (.slice none 0 0) rfl
 have fx12 := HM20.out.frozen 12
 obtain ⟨w21, hw21⟩ : ∃ W, Hid (w20.setCell ⟨w4.heap.size, 12, none⟩ (.slice A20r l20r c20r) = W) := ⟨_, Lib.hid rfl⟩
 have hset := setB_cell (o := 12) (.slice A20r l20r c20r) HM20.out.head
 have hset : SetB (w4.heap.size) (cmCells 8 nm none 0 0 A12r l12r c12r A20r l20r c20r) 75 w20 w21 := by rw [← hw21.out]; exact hset
 have HM21 := Lib.hid (HM20.out.setB hset (fun p hp => absurd hp (by simp)))
 have HX21 := Lib.hid (HX20.out.setB hset hX11)
 have HBb21 := Lib.hid (HBb20.out.setB HM20.out.head hset hwx12)
 have HBc21 := Lib.hid (HBc20.out.setB HM20.out.head hset hwx20)
 have hz21 := Nat.le_of_eq hset.size.symm
 have HQ21 := Lib.hid hset.size
 clear hset
 have hnum := HM21.out.cx.num
 have hs1000 : sl20 ≤ 1000 := by have k1 := hnum.s; have k2 := hnum.sum; have k3 := hnum.left0; dsimp only at k1 k2 k3; omega
 have HN11 := Lib.hid hnum
 clear hnum
 obtain ⟨n0, hn0, hws⟩ : ∃ n0 : Nat, n0 = sl12 ∧ IntKind.i64.wrap ((sl20 : Int) - 1) = (n0 : Int) := ⟨sl12, rfl, by have := HLS20.out; rw [IntWalk.i64_in _ (by omega)]; omega⟩
 have HN0 := Lib.hid hn0
 have hn0l : n0 ≤ sl20 := by have := HLS20.out; omega
 clear hn0
 go_wp2_with fail
 rw [hw21.out]
 obtain ⟨w22, hw22⟩ : ∃ W, Hid (w21.drew = W) := ⟨_, Lib.hid rfl⟩
 have hb : Below w21.heap.size w21 w22 := by rw [← hw22.out]; exact ⟨rfl, rfl, rfl, Nat.le_refl _, fun _ _ => rfl⟩
 have hkx := KeptX.below hb
 have HM22 := Lib.hid (HM21.out.below hb)
 have HX22 := Lib.hid (HX21.out.trans' hkx)
 have HBb22 := Lib.hid (HBb21.out.kept hkx)
 have HBc22 := Lib.hid (HBc21.out.kept hkx)
 have hz22 := hb.size
 clear hkx
 clear hb HL3
 have HL3 : Hid (w22.cell? ⟨M, 4, none⟩ = some (.slice S20 sl20 sc20)) := Lib.hid (HM22.out.cx.maker.cell 4 (.slice S20 sl20 sc20) rfl)
 refine wp_region_U (S := fun w' => w'.cell? ⟨M, 4, none⟩ = some (.slice S20 sl20 sc20)) (L := [1, 5, 9, 10, 11, 12, 13]) (by kernel_rfl) ?_
 rw [hw22.out]
 refine wpAnyU_late (i := 0) (v := ?_) rfl (by kernel_rfl) (by kernel_rfl) (by kernel_rfl) (by kernel_rfl) (fun _ _ _ h => hRp _ _ _ _ _ h) (Or.inl ⟨by rfl, ?_⟩) ?_
 rotate_left 1
 ·intro w hSw
  clear hSw
  (go_simp) <;> (with_reducible rfl)
 (try simp only [Act.put, zA, zB, zC, zD, zE, zF])
 refine wpAnyU_late (i := 2) (v := ?_) rfl (by kernel_rfl) (by kernel_rfl) (by kernel_rfl) (by kernel_rfl) (fun _ _ _ h => hRp _ _ _ _ _ h) (Or.inl ⟨by rfl, ?_⟩) ?_
 rotate_left 1
 ·intro w hSw
  clear hSw
  (go_simp) <;> (with_reducible rfl)
 (try simp only [Act.put, zA, zB, zC, zD, zE, zF])
 refine wpAnyU_late (i := 3) (v := ?_) rfl (by kernel_rfl) (by kernel_rfl) (by kernel_rfl) (by kernel_rfl) (fun _ _ _ h => hRp _ _ _ _ _ h) (Or.inl ⟨by rfl, ?_⟩) ?_
 rotate_left 1
 ·intro w hSw
  clear hSw
  (go_simp) <;> (with_reducible rfl)
 (try simp only [Act.put, zA, zB, zC, zD, zE, zF])
 refine wpAnyU_late (i := 4) (v := ?_) rfl (by kernel_rfl) (by kernel_rfl) (by kernel_rfl) (by kernel_rfl) (fun _ _ _ h => hRp _ _ _ _ _ h) (Or.inl ⟨by rfl, ?_⟩) ?_
 rotate_left 1
 ·intro w hSw
  clear hSw
  (go_simp) <;> (with_reducible rfl)
 (try simp only [Act.put, zA, zB, zC, zD, zE, zF])
 refine wpAnyU_late (i := 6) (v := ?_) rfl (by kernel_rfl) (by kernel_rfl) (by kernel_rfl) (by kernel_rfl) (fun _ _ _ h => hRp _ _ _ _ _ h) (Or.inl ⟨by rfl, ?_⟩) ?_
 rotate_left 1
 ·intro w hSw
  clear hSw
  (go_simp) <;> (with_reducible rfl)
 (try simp only [Act.put, zA, zB, zC, zD, zE, zF])
 refine wpAnyU_late (i := 7) (v := ?_) rfl (by kernel_rfl) (by kernel_rfl) (by kernel_rfl) (by kernel_rfl) (fun _ _ _ h => hRp _ _ _ _ _ h) (Or.inl ⟨by rfl, ?_⟩) ?_
 rotate_left 1
 ·intro w hSw
  clear hSw
  (go_simp) <;> (with_reducible rfl)
 (try simp only [Act.put, zA, zB, zC, zD, zE, zF])
 refine wpAnyU_late (i := 8) (v := ?_) rfl (by kernel_rfl) (by kernel_rfl) (by kernel_rfl) (by kernel_rfl) (fun _ _ _ h => hRp _ _ _ _ _ h) (Or.inl ⟨by rfl, ?_⟩) ?_
 rotate_left 1
 ·intro w hSw
  clear hSw
  (go_simp) <;> (with_reducible rfl)
 (try simp only [Act.put, zA, zB, zC, zD, zE, zF])
 refine wpAnyU_take (i := 5) (v := ?_) rfl (by kernel_rfl) (by kernel_rfl) (by kernel_rfl) (by kernel_rfl) (by kernel_rfl) (fun _ _ _ h => hRp _ _ _ _ _ h) (Or.inl ⟨by rfl, ?_⟩) HL3.out ?_
 rotate_left 1
 ·intro w hSw
  (try dsimp only at hSw)
  (go_simp) <;> (with_reducible rfl)
 (try simp only [Act.put, zA, zB, zC, zD, zE, zF])
 refine wpAnyU_take (i := 9) (v := ?_) rfl (by kernel_rfl) (by kernel_rfl) (by kernel_rfl) (by kernel_rfl) (by kernel_rfl) (fun _ _ _ h => hRp _ _ _ _ _ h) (Or.inl ⟨by rfl, ?_⟩) HL3.out ?_
 rotate_left 1
 ·intro w hSw
  (try dsimp only at hSw)
  (go_simp) <;> (with_reducible rfl)
 (try simp only [Act.put, zA, zB, zC, zD, zE, zF])
 refine wpAnyU_take (i := 10) (v := ?_) rfl (by kernel_rfl) (by kernel_rfl) (by kernel_rfl) (by kernel_rfl) (by kernel_rfl) (fun _ _ _ h => hRp _ _ _ _ _ h) (Or.inl ⟨by rfl, ?_⟩) HL3.out ?_
 rotate_left 1
 ·intro w hSw
  (try dsimp only at hSw)
  (go_simp) <;> (with_reducible rfl)
 (try simp only [Act.put, zA, zB, zC, zD, zE, zF])
 refine wpAnyU_take (i := 11) (v := ?_) rfl (by kernel_rfl) (by kernel_rfl) (by kernel_rfl) (by kernel_rfl) (by kernel_rfl) (fun _ _ _ h => hRp _ _ _ _ _ h) (Or.inl ⟨by rfl, ?_⟩) HL3.out ?_
 rotate_left 1
 ·intro w hSw
  (try dsimp only at hSw)
  (go_simp) <;> (with_reducible rfl)
 (try simp only [Act.put, zA, zB, zC, zD, zE, zF])
 (try rw [hws])
 refine wpAnyU_take (i := 12) (v := .slice S20 n0 sc20) rfl (by kernel_rfl) (by kernel_rfl) (by kernel_rfl) (by kernel_rfl) (by kernel_rfl) (fun _ _ _ h => hRp _ _ _ _ _ h) (Or.inl ⟨by rfl, fun w _ => slice_names _ _ rfl rfl rfl HM22.out.cx.s hn0l w⟩) HL3.out ?_
 (try simp only [Act.put, zA, zB, zC, zD, zE, zF])
 refine wpAnyU_ready (rs := [1]) (by kernel_rfl) (by simp) (AllU.cons rfl (fun K hK => ?_) AllU.nil)
 go_simp
 obtain ⟨w23, hw23⟩ : ∃ W, Hid (w22.alloc (.cells #[] 9) = W) := ⟨_, Lib.hid rfl⟩
 have hb : Below w22.heap.size w22 w23 := by rw [← hw23.out]; exact (Below.refl _ _).alloc (Nat.le_refl _) _
 have hmade := NameOwn.made (D := w22.heap.size) w22 (Nat.le_refl _)
 rw [hw23.out] at hmade
 have HMD := Lib.hid hmade
 have HBW := Lib.hid hb
 have hkx := KeptX.below hb
 have HM23 := Lib.hid (HM22.out.below hb)
 have HX23 := Lib.hid (HX22.out.trans' hkx)
 have HBb23 := Lib.hid (HBb22.out.kept hkx)
 have HBc23 := Lib.hid (HBc22.out.kept hkx)
 have hz23 := hb.size
 clear hkx
 clear hb hmade
 rw [hw23.out]
 refine hK.out _ _ (fun _ => HM23.out.cx.maker.cell 4 (.slice S20 sl20 sc20) rfl) ?_
 clear hK K
 (try simp only [Act.put, zA, zB, zC, zD, zE, zF])
 refine wpAnyU_ready (rs := [13]) (by kernel_rfl) (by simp) (AllU.cons rfl (fun K hK => ?_) AllU.nil)
 rw [if_pos (by rfl)]
 refine wp_append_names _ _ rfl w22.heap.size B (some ⟨w22.heap.size, 0, none⟩) S20 0 sl20 sc20 n0 rfl HMD.out rfl HM23.out.cx.s hn0l hs1000 (by omega) ?_
 intro A6 c6 w24 hown hgrow hplace
 have hb := HBW.out.grown hgrow (by omega) (fun k hk => (HMD.out.place k hk).1)
 have hfar : ∀ {g : Nat}, blk A6 = some g → w22.heap.size ≤ g := fun hg => (hown.place _ hg).1
 have hne6 : blk A6 ≠ none := by rcases hplace with e | e <;> (rw [e]; simp [blk])
 have hq6 : blk A6 ≠ blk Q20 := fun e => by
  cases hg : blk A6 with
  | none => exact hne6 hg
  | some g =>
   have h1 := hfar hg
   have h2 := (HM22.out.cx.q.place g (e.symm.trans hg)).2.1
   omega
 have hr6 : blk A6 ≠ blk R20 := fun e => by
  cases hg : blk A6 with
  | none => exact hne6 hg
  | some g =>
   have h1 := hfar hg
   have h2 := (HM22.out.cx.r.place g (e.symm.trans hg)).2.1
   omega
 have hkx := KeptX.below hb
 have HM24 := Lib.hid (HM22.out.below hb)
 have HX24 := Lib.hid (HX22.out.trans' hkx)
 have HBb24 := Lib.hid (HBb22.out.kept hkx)
 have HBc24 := Lib.hid (HBc22.out.kept hkx)
 have hz24 := hb.size
 clear hkx
 obtain ⟨hc, hw⟩ := HM24.out.cx.putS (hown.base (Nat.le_trans HM22.out.cx.lt (Nat.le_refl _))) hq6 hr6 hn0l
 dsimp only at hc hw
 obtain ⟨w25, hw25⟩ : ∃ W, Hid (w24.setCell ⟨M, 4, none⟩ (.slice A6 n0 c6) = W) := ⟨_, Lib.hid rfl⟩
 rw [hw25.out] at hc hw
 have hkx := hw.keptX
 have HM25 := Lib.hid (HM24.out.turned hc hw)
 have HX25 := Lib.hid (HX24.out.trans' hkx)
 have HBb25 := Lib.hid (HBb24.out.kept hkx)
 have HBc25 := Lib.hid (HBc24.out.kept hkx)
 have hz25 := hw.size
 clear hkx
 have kM := HM24.out.cx.maker.cell 4 (.slice S20 sl20 sc20) rfl
 have fM := HM24.out.cx.maker.frozen 4
 dsimp only at kM fM
 clear hc hw hb hown hgrow hplace hq6 hr6 hne6 hfar
 refine hK.out _ _ (fun _ => kM) ?_
 clear hK K
 (try simp only [Act.put, zA, zB, zC, zD, zE, zF])
 refine wpAnyU_late (i := 14) (v := ?_) rfl (by kernel_rfl) (by kernel_rfl) (by kernel_rfl) (by kernel_rfl) (fun _ _ _ h => hRp _ _ _ _ _ h) (Or.inl ⟨by rfl, ?_⟩) ?_
 rotate_left 1
 ·intro w hSw
  clear hSw
  (go_simp) <;> (with_reducible rfl)
 (try simp only [Act.put, zA, zB, zC, zD, zE, zF])
 refine wpAnyU_late (i := 15) (v := ?_) rfl (by kernel_rfl) (by kernel_rfl) (by kernel_rfl) (by kernel_rfl) (fun _ _ _ h => hRp _ _ _ _ _ h) (Or.inl ⟨by rfl, ?_⟩) ?_
 rotate_left 1
 ·intro w hSw
  clear hSw
  (go_simp) <;> (with_reducible rfl)
 (try simp only [Act.put, zA, zB, zC, zD, zE, zF])
 refine wpAnyU_ready (rs := [16]) (by kernel_rfl) (by simp) (AllU.cons rfl (fun K hK => ?_) AllU.nil)
 go_simp
 rw [hw25.out]
 refine hK.out _ _ (fun hh => absurd hh (by decide)) ?_
 clear hK K kM fM
 refine wpAnyU_done (by kernel_rfl) ?_ _
 have HKF : Hid (Kin ⟨M, T, f, funcs, count0, left0, P, S0, Q0, R0, pl, pc, sl0, sc0, ql0, qc0, rl0, rc0, A, len, cap⟩ ⟨M, T, f, funcs, count20, left20, P, A6, Q20, R20, pl, pc, n0, c6, ql20, qc20, rl20, rc20, A, len, cap⟩) := Lib.hid ⟨rfl, rfl, rfl, rfl, rfl, rfl, rfl, rfl, rfl, rfl, by have a1 := HKB.out.s; have a2 := HN0.out; dsimp only at a1 ⊢; omega, HKF.out.q, HKF.out.r, HKF.out.count⟩
 obtain ⟨w26, hw26⟩ : ∃ W, Hid (w25.alloc (.cells (#[.int .i64 8, .int .i64 0, .int .i64 0, .string nm, .string ⟨#[]⟩, .int .i64 0, .int .i64 0, .slice none 0 0, .string ⟨#[]⟩, .int .i64 0, .slice none 0 0, .slice A12r l12r c12r, .slice A20r l20r c20r]) 75) = W) := ⟨_, Lib.hid rfl⟩
 have hb : Below w25.heap.size w25 w26 := by rw [← hw26.out]; exact (Below.refl _ _).alloc (Nat.le_refl _) _
 have HY26 : Hid (w26.heap[w25.heap.size]? = some (.cells (cmCells 8 nm none 0 0 A12r l12r c12r A20r l20r c20r) 75 (0, 0))) := Lib.hid (by rw [← hw26.out]; exact Array.getElem?_push_size)
 have hkx := KeptX.below hb
 have HM26 := Lib.hid (HM25.out.below hb)
 have HX26 := Lib.hid (HX25.out.trans' hkx)
 have HBb26 := Lib.hid (HBb25.out.kept hkx)
 have HBc26 := Lib.hid (HBc25.out.kept hkx)
 have hz26 := hb.size
 clear hkx
 clear hb
 have HSF := Lib.hid (HS4.out.kept HX26.out)
 have hST : StIn w26 (fun b => w.heap.size ≤ b ∧ some b ≠ blk Ar) (d + 1) (.agg (cmCells 8 nm none 0 0 A12r l12r c12r A20r l20r c20r)) (1 + ([] : List Nat).sum + ns12.sum + ns20.sum) := stIn_comp (kind := 8) ⟨by omega, by omega⟩ hnm (ExRow.nil _) (HBb26.out.row.mono (fun b _ hb => HS4.out.beyond hww (Nat.le_trans (show w4.heap.size ≤ w11.heap.size by omega) hb))) (HBc26.out.row.mono (fun b _ hb => HS4.out.beyond hww (Nat.le_trans (show w4.heap.size ≤ w19.heap.size by omega) hb)))
 have HST := Lib.hid hST
 have hwf : w.heap.size ≤ w26.heap.size := HM26.out.went.size
 clear hST
 go_wp2_with (first | (((with_reducible show wpList _ _ _ (Oper.mk _ (Op.load 75 _) _ _ _ none :: _) _ _); (refine load_stmt rfl _ rfl (w4.heap.size) (#[.int .i64 8, .int .i64 0, .int .i64 0, .string nm, .string ⟨#[]⟩, .int .i64 0, .int .i64 0, .slice none 0 0, .string ⟨#[]⟩, .int .i64 0, .slice none 0 0, .slice A12r l12r c12r, .slice A20r l20r c20r]) rfl HM25.out.head rfl ?_))) | (at_builtin; rw [hw26.out]; refine wpList_plain rfl (fun K hK => ?_); refine wp_append_one _ _ rfl w.heap.size (w25.heap.size) (d + 1) l c 1 (1 + ([] : List Nat).sum + ns12.sum + ns20.sum) Ar ns (cmCells 8 nm none 0 0 A12r l12r c12r A20r l20r c20r) rfl HSF.out rfl HY26.out rfl (cmCells_one _ _ _ _ _ _ _ _ _ _ _) HST.out (by omega) hwf ?_; intro A3 c3 w27 hgrow hplace hst7; have HMF := Lib.hid (HM26.out.drop.rows HSF.out (Nat.le_refl _) (fun p hp => absurd hp (by simp)) hgrow); have HSL := Lib.hid hst7; clear hgrow hplace hst7; refine hK _ _ ?_))
 refine HR.out _ _ ?_
 exact ⟨_, _, _, _, _, _, _, _, _, _, _, _, _, _, _, _, _, _, _, _, _, _, _, _, _, _, _, _, _, _, _, _, _, _, _, _, _, _, _, _, _, _, _, _, _, _, _, _, _, _, _, _, _, _, _, _, _, _, _, _, _, _, _, _, _, _, _, _, _, _, _, _, _, _, _, _, _, _, _, _, _, _, _, _, _, _, _, _, _, _, _, _, _, _, _, _, _, _, _, _, _, _, _, _, _, _, _, _, _, _, _, _, _, _, _, _, _, _, _, _, _, _, _, _, _, _, _, _, _, _, _, _, _, _, _, _, _, _, _, _, _, _, _, _, _, _, _, _, _, _, _, _, _, _, _, _, _, _, _, _, _, _, _, _, _, _, _, _, _, _, _, _, _, _, _, _, _, _, _, _, _, _, _, _, _, _, _, _, _, _, _, _, _, _, _, _, _, _, _, _, _, _, _, _, _, _, _, _, _, _, _, _, _, _, _, _, _, _, _, _, _, _, _, _, _, _, _, _, _, _, _, _, _, _, _, _, _, _, _, _, _, _, _, _, _, _, _, _, _, l + 1, c3, A3, ns ++ [1 + ([] : List Nat).sum + ns12.sum + ns20.sum], _, rfl, by omega, HSL.out, HKF.out, by dsimp only; omega, by dsimp only; omega, by rw [List.sum_append]; simp only [List.sum_cons, List.sum_nil]; (try dsimp only); omega, HMF.out⟩
end Go.Proofs.YtchibamdkaejdaaDoor
namespace Go.Proofs.YtchibamdkaejdaaDoor
open Go.RowKit
variable {lo : Nat}

set_option linter.unusedSimpArgs false in
set_option linter.unusedVariables false in
set_option maxHeartbeats 0 in
set_option maxRecDepth 100000 in
theorem sw_loop (B : Nat) (nest d : Nat) (w w4 : World) (most k l c : Nat) (M T : Nat) (f funcs count0 left0 count1 left1 left4 r : Int) (P S0 Q0 R0 S1 Q1 R1 Ar : Option Addr) (pl pc sl0 sc0 ql0 qc0 rl0 rc0 sl1 sc1 ql1 qc1 rl1 rc1 : Nat) (A : Option Addr) (len cap : Nat) (ns : List Nat) (hnest : nest ≤ 4) (HIH : Hid (nest < 4 → BodyAt (nest + 1) d)) (HIL : Hid (nest < 4 → LoopAt nest d)) (H0 : Hid (M < w.heap.size)) (hmost : most ≤ 10) (hlt : k < most) (hl : l ≤ 2 * k) (hz4 : w.heap.size ≤ w4.heap.size) (hr0 : 0 ≤ r) (hr1 : r < 16) (hleft : left1 ≤ left0) (hcl : count1 + left1 ≤ count0 + left0) (hsum : (ns.sum : Int) ≤ 100 * (left0 - left1)) (hleft4 : left1 = left4 + 1) (n1 : 0 ≤ count1) (n2 : 0 ≤ left4) (n3 : count1 + left4 ≤ 21) (HKF : Hid (Kin ⟨M, T, f, funcs, count0, left0, P, S0, Q0, R0, pl, pc, sl0, sc0, ql0, qc0, rl0, rc0, A, len, cap⟩ ⟨M, T, f, funcs, count1, left4, P, S1, Q1, R1, pl, pc, sl1, sc1, ql1, qc1, rl1, rc1, A, len, cap⟩)) (HM4 : Hid (Mks lo B ⟨M, T, f, funcs, count1, left4, P, S1, Q1, R1, pl, pc, sl1, sc1, ql1, qc1, rl1, rc1, A, len, cap⟩ w [] w4)) (HS4 : Hid (StsAt w4 w.heap.size (d + 1) Ar l c ns)) {x3 x4 x5 x6 x10 x11 x12 x13 x14 x15 x16 x17 x18 x19 x20 x21 x22 x23 x24 x25 x26 x27 x28 x29 x30 x31 x32 x33 x34 x35 x36 x37 x38 x39 x40 x41 x42 x43 x44 x45 x46 x47 x48 x49 x50 x51 x52 x53 x54 x55 x56 x57 x58 x59 x60 x61 x62 x63 x64 x65 x66 x67 x68 x69 x70 x71 x72 x73 x74 x75 x76 x77 x78 x79 x80 x81 x82 x83 x84 x85 x86 x87 x88 x89 x90 x91 x92 x93 x94 x95 x96 x97 x98 x99 x100 x101 x102 x103 x104 x105 x106 x107 x108 x109 x110 x111 x112 x113 x114 x115 x116 x117 x118 x119 x120 x121 x122 x123 x124 x125 x126 x127 x128 x129 x130 x131 x132 x133 x134 x135 x136 x137 x138 x139 x140 x141 x142 x143 x144 x145 x146 x147 x148 x149 x150 x151 x152 x153 x154 x155 x156 x157 x158 x159 x160 x161 x162 x163 x164 x165 x166 x167 x168 x169 x170 x171 x172 x173 x174 x175 x176 x177 x178 x179 x180 x181 x182 x183 x184 x185 x186 x187 x188 x189 x190 x191 x192 x193 x194 x195 x196 x197 x198 x199 x200 x201 x202 x203 x204 x205 x206 x207 x208 x209 x210 x211 x212 x213 x214 x215 x216 x217 x218 x219 x220 x221 x222 x223 x224 x225 x226 x227 x228 x229 x230 x231 x232 x233 x234 x235 x236 x237 x238 x239 x240 x241 x242 x243 x244 x245 x246 x247 x248 x249 x250 x251 x252 x253 x254 x255 x256 x257 x258 : Value} (R : Exit → Act → World → Prop) (hR : ∀ a' w', SwEnd lo B w M nest most k l d left0 count0 ⟨M, T, f, funcs, count0, left0, P, S0, Q0, R0, pl, pc, sl0, sc0, ql0, qc0, rl0, rc0, A, len, cap⟩ x3 x4 x5 x6 x258 a' w' → R .normal a' w') (hcase : (r = 4 ∧ nest < 4 ∧ count1 < 14)) : Code.wp Tryd.prog swBlock R ⟨#[.pointer (some ⟨M, 0, none⟩), .int .i64 nest, .int .i64 most, x3, x4, x5, x6, .slice Ar l c, .int .i64 k, .int .i64 r, x10, x11, x12, x13, x14, x15, x16, x17, x18, x19, x20, x21, x22, x23, x24, x25, x26, x27, x28, x29, x30, x31, x32, x33, x34, x35, x36, x37, x38, x39, x40, x41, x42, x43, x44, x45, x46, x47, x48, x49, x50, x51, x52, x53, x54, x55, x56, x57, x58, x59, x60, x61, x62, x63, x64, x65, x66, x67, x68, x69, x70, x71, x72, x73, x74, x75, x76, x77, x78, x79, x80, x81, x82, x83, x84, x85, x86, x87, x88, x89, x90, x91, x92, x93, x94, x95, x96, x97, x98, x99, x100, x101, x102, x103, x104, x105, x106, x107, x108, x109, x110, x111, x112, x113, x114, x115, x116, x117, x118, x119, x120, x121, x122, x123, x124, x125, x126, x127, x128, x129, x130, x131, x132, x133, x134, x135, x136, x137, x138, x139, x140, x141, x142, x143, x144, x145, x146, x147, x148, x149, x150, x151, x152, x153, x154, x155, x156, x157, x158, x159, x160, x161, x162, x163, x164, x165, x166, x167, x168, x169, x170, x171, x172, x173, x174, x175, x176, x177, x178, x179, x180, x181, x182, x183, x184, x185, x186, x187, x188, x189, x190, x191, x192, x193, x194, x195, x196, x197, x198, x199, x200, x201, x202, x203, x204, x205, x206, x207, x208, x209, x210, x211, x212, x213, x214, x215, x216, x217, x218, x219, x220, x221, x222, x223, x224, x225, x226, x227, x228, x229, x230, x231, x232, x233, x234, x235, x236, x237, x238, x239, x240, x241, x242, x243, x244, x245, x246, x247, x248, x249, x250, x251, x252, x253, x254, x255, x256, x257, x258], []⟩ w4 := by
 have HR := Lib.hid hR
 clear hR
 have HX4 := Lib.hid (KeptX.id w4)
 have hww := hz4
 have hz4 : w4.heap.size ≤ w4.heap.size := Nat.le_refl _
 have hk : k ≤ most := by omega
 have e0 := HM4.out.cx.maker.cell 0 (.pointer (some ⟨T, 0, none⟩)) rfl
 have e7 := HM4.out.cx.maker.cell 7 (.int .i64 count1) rfl
 dsimp only at e0 e7
 obtain ⟨_, _, _, n4, n5, n6, n7, n8, n9⟩ := HM4.out.cx.num
 dsimp only at n4 n5 n6 n7 n8 n9
 obtain ⟨rfl, hlt4, hct⟩ := hcase
 simp only [swBlock, cFst, cSnd, cIn, Tryd.f26, Option.getD]
 go_wp2_with fail
 refine (HIL.out hlt4 B ⟨M, T, f, funcs, count1, left4, P, S1, Q1, R1, pl, pc, sl1, sc1, ql1, qc1, rl1, rc1, A, len, cap⟩ w4 HM4.out.cx (by dsimp only; omega)).mono ?_
 rintro e w11 ⟨Y, nm, A2l, A3l, l2l, c2l, l3l, c3l, n2l, n3l, m11, rfl, hY, hnm, hblk, hr2, hs2, hr3, hkin, hleft11, hcl11, hsum11, hc, hw⟩
 obtain ⟨M11, T11, f11, funcs11, count11, left11, P11, S11, Q11, R11, pl11, pc11, sl11, sc11, ql11, qc11, rl11, rc11, A11, len11, cap11⟩ := m11
 have hk11 := hkin
 obtain ⟨z1, z2, z3, z4, z5, z6, z7, z8, z9, z10⟩ := hk11.lets
 dsimp only at z1 z2 z3 z4 z5 z6 z7 z8 z9 z10
 subst z1 z2 z3 z4 z5 z6 z7 z8 z9 z10
 dsimp only at hleft11 hcl11 hsum11
 have HKF := Lib.hid (HKF.out.trans hk11)
 clear hk11
 have hkx := hw.keptX
 have HM11 := Lib.hid (HM4.out.turned hc hw)
 have HX11 := Lib.hid (HX4.out.trans' hkx)
 have hz11 := hw.size
 clear hkx
 have HYB := Lib.hid hblk
 have HSF := Lib.hid (HS4.out.kept HX11.out)
 have HST1 : Hid (StIn w11 (fun b => w.heap.size ≤ b ∧ some b ≠ blk Ar) (d + 1) (.agg (declCells nm ⟨#[]⟩ 0)) 1) := Lib.hid (stIn_decl _ _ d nm ⟨#[]⟩ 0 hnm (by decide) (by omega))
 have HST2 : Hid (StIn w11 (fun b => w.heap.size ≤ b ∧ some b ≠ blk Ar) (d + 1) (.agg (cmCells 5 ⟨#[]⟩ A2l l2l c2l A3l l3l c3l none 0 0)) (1 + n2l.sum + n3l.sum + ([] : List Nat).sum)) := Lib.hid (stIn_comp (kind := 5) ⟨by omega, by omega⟩ (by decide) hr2 (hr3.mono (fun b _ hb => HS4.out.beyond hww hb)) (StRow.nil _ _ _))
 have hwf : w.heap.size ≤ w11.heap.size := HM11.out.went.size
 clear hkin hc hw hblk hr2 hr3
 go_wp2_with (at_builtin; refine wpList_plain rfl (fun K hK => ?_); refine wp_append_two _ _ rfl w.heap.size Y (d + 1) l c 2 1 (1 + n2l.sum + n3l.sum + ([] : List Nat).sum) Ar ns (loopCells nm A2l l2l c2l A3l l3l c3l) (declCells nm ⟨#[]⟩ 0) (cmCells 5 ⟨#[]⟩ A2l l2l c2l A3l l3l c3l none 0 0) rfl HSF.out rfl HYB.out (loopCells_two _ _ _ _ _ _ _) rfl rfl (declCells_one _ _ _) (cmCells_one _ _ _ _ _ _ _ _ _ _ _) HST1.out HST2.out (by omega) hwf ?_; intro A3 c3 w12 hgrow hplace hst7; have HMF := Lib.hid (HM11.out.rows HSF.out (Nat.le_refl _) (fun p hp => absurd hp (by simp)) hgrow); have HSL := Lib.hid hst7; clear hgrow hplace hst7; refine hK _ _ ?_)
 refine HR.out _ _ ?_
 exact ⟨_, _, _, _, _, _, _, _, _, _, _, _, _, _, _, _, _, _, _, _, _, _, _, _, _, _, _, _, _, _, _, _, _, _, _, _, _, _, _, _, _, _, _, _, _, _, _, _, _, _, _, _, _, _, _, _, _, _, _, _, _, _, _, _, _, _, _, _, _, _, _, _, _, _, _, _, _, _, _, _, _, _, _, _, _, _, _, _, _, _, _, _, _, _, _, _, _, _, _, _, _, _, _, _, _, _, _, _, _, _, _, _, _, _, _, _, _, _, _, _, _, _, _, _, _, _, _, _, _, _, _, _, _, _, _, _, _, _, _, _, _, _, _, _, _, _, _, _, _, _, _, _, _, _, _, _, _, _, _, _, _, _, _, _, _, _, _, _, _, _, _, _, _, _, _, _, _, _, _, _, _, _, _, _, _, _, _, _, _, _, _, _, _, _, _, _, _, _, _, _, _, _, _, _, _, _, _, _, _, _, _, _, _, _, _, _, _, _, _, _, _, _, _, _, _, _, _, _, _, _, _, _, _, _, _, _, _, _, _, _, _, _, _, _, _, _, _, _, _, l + 2, c3, A3, ns ++ [1, 1 + n2l.sum + n3l.sum + ([] : List Nat).sum], _, rfl, by omega, HSL.out, HKF.out, by dsimp only; omega, by dsimp only; omega, by rw [List.sum_append]; simp only [List.sum_cons, List.sum_nil]; (try dsimp only); omega, HMF.out⟩
set_option linter.unusedSimpArgs false in
set_option linter.unusedVariables false in
set_option maxHeartbeats 0 in
set_option maxRecDepth 100000 in
theorem sw_while (B : Nat) (nest d : Nat) (w w4 : World) (most k l c : Nat) (M T : Nat) (f funcs count0 left0 count1 left1 left4 r : Int) (P S0 Q0 R0 S1 Q1 R1 Ar : Option Addr) (pl pc sl0 sc0 ql0 qc0 rl0 rc0 sl1 sc1 ql1 qc1 rl1 rc1 : Nat) (A : Option Addr) (len cap : Nat) (ns : List Nat) (hnest : nest ≤ 4) (HIH : Hid (nest < 4 → BodyAt (nest + 1) d)) (HIL : Hid (nest < 4 → LoopAt nest d)) (H0 : Hid (M < w.heap.size)) (hmost : most ≤ 10) (hlt : k < most) (hl : l ≤ 2 * k) (hz4 : w.heap.size ≤ w4.heap.size) (hr0 : 0 ≤ r) (hr1 : r < 16) (hleft : left1 ≤ left0) (hcl : count1 + left1 ≤ count0 + left0) (hsum : (ns.sum : Int) ≤ 100 * (left0 - left1)) (hleft4 : left1 = left4 + 1) (n1 : 0 ≤ count1) (n2 : 0 ≤ left4) (n3 : count1 + left4 ≤ 21) (HKF : Hid (Kin ⟨M, T, f, funcs, count0, left0, P, S0, Q0, R0, pl, pc, sl0, sc0, ql0, qc0, rl0, rc0, A, len, cap⟩ ⟨M, T, f, funcs, count1, left4, P, S1, Q1, R1, pl, pc, sl1, sc1, ql1, qc1, rl1, rc1, A, len, cap⟩)) (HM4 : Hid (Mks lo B ⟨M, T, f, funcs, count1, left4, P, S1, Q1, R1, pl, pc, sl1, sc1, ql1, qc1, rl1, rc1, A, len, cap⟩ w [] w4)) (HS4 : Hid (StsAt w4 w.heap.size (d + 1) Ar l c ns)) {x3 x4 x5 x6 x10 x11 x12 x13 x14 x15 x16 x17 x18 x19 x20 x21 x22 x23 x24 x25 x26 x27 x28 x29 x30 x31 x32 x33 x34 x35 x36 x37 x38 x39 x40 x41 x42 x43 x44 x45 x46 x47 x48 x49 x50 x51 x52 x53 x54 x55 x56 x57 x58 x59 x60 x61 x62 x63 x64 x65 x66 x67 x68 x69 x70 x71 x72 x73 x74 x75 x76 x77 x78 x79 x80 x81 x82 x83 x84 x85 x86 x87 x88 x89 x90 x91 x92 x93 x94 x95 x96 x97 x98 x99 x100 x101 x102 x103 x104 x105 x106 x107 x108 x109 x110 x111 x112 x113 x114 x115 x116 x117 x118 x119 x120 x121 x122 x123 x124 x125 x126 x127 x128 x129 x130 x131 x132 x133 x134 x135 x136 x137 x138 x139 x140 x141 x142 x143 x144 x145 x146 x147 x148 x149 x150 x151 x152 x153 x154 x155 x156 x157 x158 x159 x160 x161 x162 x163 x164 x165 x166 x167 x168 x169 x170 x171 x172 x173 x174 x175 x176 x177 x178 x179 x180 x181 x182 x183 x184 x185 x186 x187 x188 x189 x190 x191 x192 x193 x194 x195 x196 x197 x198 x199 x200 x201 x202 x203 x204 x205 x206 x207 x208 x209 x210 x211 x212 x213 x214 x215 x216 x217 x218 x219 x220 x221 x222 x223 x224 x225 x226 x227 x228 x229 x230 x231 x232 x233 x234 x235 x236 x237 x238 x239 x240 x241 x242 x243 x244 x245 x246 x247 x248 x249 x250 x251 x252 x253 x254 x255 x256 x257 x258 : Value} (R : Exit → Act → World → Prop) (hR : ∀ a' w', SwEnd lo B w M nest most k l d left0 count0 ⟨M, T, f, funcs, count0, left0, P, S0, Q0, R0, pl, pc, sl0, sc0, ql0, qc0, rl0, rc0, A, len, cap⟩ x3 x4 x5 x6 x258 a' w' → R .normal a' w') (hcase : (r = 9 ∧ nest < 4)) : Code.wp Tryd.prog swBlock R ⟨#[.pointer (some ⟨M, 0, none⟩), .int .i64 nest, .int .i64 most, x3, x4, x5, x6, .slice Ar l c, .int .i64 k, .int .i64 r, x10, x11, x12, x13, x14, x15, x16, x17, x18, x19, x20, x21, x22, x23, x24, x25, x26, x27, x28, x29, x30, x31, x32, x33, x34, x35, x36, x37, x38, x39, x40, x41, x42, x43, x44, x45, x46, x47, x48, x49, x50, x51, x52, x53, x54, x55, x56, x57, x58, x59, x60, x61, x62, x63, x64, x65, x66, x67, x68, x69, x70, x71, x72, x73, x74, x75, x76, x77, x78, x79, x80, x81, x82, x83, x84, x85, x86, x87, x88, x89, x90, x91, x92, x93, x94, x95, x96, x97, x98, x99, x100, x101, x102, x103, x104, x105, x106, x107, x108, x109, x110, x111, x112, x113, x114, x115, x116, x117, x118, x119, x120, x121, x122, x123, x124, x125, x126, x127, x128, x129, x130, x131, x132, x133, x134, x135, x136, x137, x138, x139, x140, x141, x142, x143, x144, x145, x146, x147, x148, x149, x150, x151, x152, x153, x154, x155, x156, x157, x158, x159, x160, x161, x162, x163, x164, x165, x166, x167, x168, x169, x170, x171, x172, x173, x174, x175, x176, x177, x178, x179, x180, x181, x182, x183, x184, x185, x186, x187, x188, x189, x190, x191, x192, x193, x194, x195, x196, x197, x198, x199, x200, x201, x202, x203, x204, x205, x206, x207, x208, x209, x210, x211, x212, x213, x214, x215, x216, x217, x218, x219, x220, x221, x222, x223, x224, x225, x226, x227, x228, x229, x230, x231, x232, x233, x234, x235, x236, x237, x238, x239, x240, x241, x242, x243, x244, x245, x246, x247, x248, x249, x250, x251, x252, x253, x254, x255, x256, x257, x258], []⟩ w4 := by
 have HR := Lib.hid hR
 clear hR
 have HX4 := Lib.hid (KeptX.id w4)
 have hww := hz4
 have hz4 : w4.heap.size ≤ w4.heap.size := Nat.le_refl _
 have hk : k ≤ most := by omega
 have e0 := HM4.out.cx.maker.cell 0 (.pointer (some ⟨T, 0, none⟩)) rfl
 have e7 := HM4.out.cx.maker.cell 7 (.int .i64 count1) rfl
 dsimp only at e0 e7
 obtain ⟨_, _, _, n4, n5, n6, n7, n8, n9⟩ := HM4.out.cx.num
 dsimp only at n4 n5 n6 n7 n8 n9
 obtain ⟨rfl, hlt4⟩ := hcase
 simp only [swBlock, cFst, cSnd, cIn, Tryd.f26, Option.getD]
 go_wp2_with fail
 obtain ⟨p13, ht13⟩ := HM4.out.cx.tape
 refine (next_any w4 T A len cap p13 ht13 8 (by omega) (by omega)).mono ?_
 rintro e w13 ⟨q, t13, rfl, q0, q1, hm⟩
 have hg := hm.grew
 have hkx := HM4.out.keptX hg
 have HM13 := Lib.hid (HM4.out.grew hg)
 have HX13 := Lib.hid (HX4.out.trans' hkx)
 have hz13 := hg.size
 clear hkx
 clear hg hm ht13
 have hq : q = 0 ∨ q ≠ 0 := by omega
 rcases hq with rfl | hq0
 ·have e0 := HM13.out.cx.maker.cell 0 (.pointer (some ⟨T, 0, none⟩)) rfl
  dsimp only at e0
  go_wp2_with fail
  refine (expr_any ⟨M, T, f, funcs, count1, left4, P, S1, Q1, R1, pl, pc, sl1, sc1, ql1, qc1, rl1, rc1, A, len, cap⟩ w13 1 (by omega) HM13.out.cx.ctx).mono ?_
  rintro e w14 ⟨v, n14, rfl, hex, hn14, hg⟩
  obtain ⟨op1, num, vr, nm1, fld, A', len', cap', rfl⟩ := hex.shape
  dsimp only at hg
  have hkx := HM13.out.keptX hg
  have HM14 := Lib.hid (HM13.out.grew hg)
  have HX14 := Lib.hid (HX13.out.trans' hkx)
  have hz14 := hg.size
  clear hkx
  clear hg
  obtain ⟨w15, hw15⟩ : ∃ W, Hid (w14.alloc (.cells #[.int .i64 op1, .int .i64 num, .int .i64 vr, .string nm1, .string fld, .slice A' len' cap'] 72) = W) := ⟨_, Lib.hid rfl⟩
  have hb : Below w14.heap.size w14 w15 := by rw [← hw15.out]; exact (Below.refl _ _).alloc (Nat.le_refl _) _
  have hrow := row_made hex
  rw [hw15.out] at hrow
  have hkx := KeptX.below hb
  have HM15 := Lib.hid (HM14.out.below hb)
  have HX15 := Lib.hid (HX14.out.trans' hkx)
  have hz15 := hb.size
  clear hkx
  have HEa15 : Hid (ExRow w15 (some ⟨w14.heap.size, 0, none⟩) 1 1 [n14]) := Lib.hid hrow
  have hq15 : w15.heap.size = w14.heap.size + 1 := by rw [← hw15.out]; exact Array.size_push _
  have HQ15 := Lib.hid hq15
  clear hrow hex hb hq15
  go_wp2_with fail
  rw [hw15.out]
  refine (HIH.out hlt4 B ⟨M, T, f, funcs, count1, left4, P, S1, Q1, R1, pl, pc, sl1, sc1, ql1, qc1, rl1, rc1, A, len, cap⟩ w15 3 (by omega) HM15.out.cx).mono ?_
  rintro e w16 ⟨A16r, l16r, c16r, ns16, m16, rfl, hst, hl16r, hkin, hsl16, hql16, hrl16, hleft16, hcl16, hsum16, hc, hw⟩
  obtain ⟨M16, T16, f16, funcs16, count16, left16, P16, S16, Q16, R16, pl16, pc16, sl16, sc16, ql16, qc16, rl16, rc16, A16, len16, cap16⟩ := m16
  have hk16 := hkin
  obtain ⟨z1, z2, z3, z4, z5, z6, z7, z8, z9, z10⟩ := hk16.lets
  dsimp only at z1 z2 z3 z4 z5 z6 z7 z8 z9 z10
  subst z1 z2 z3 z4 z5 z6 z7 z8 z9 z10
  dsimp only at hsl16 hql16 hrl16 hleft16 hcl16 hsum16
  have HK16 := Lib.hid hk16
  have HLS16 := Lib.hid hsl16
  clear hk16 hsl16 hql16 hrl16
  have hkx := hw.keptX
  have HM16 := Lib.hid (HM15.out.turned hc hw)
  have HX16 := Lib.hid (HX15.out.trans' hkx)
  have HEa16 := Lib.hid (HEa15.out.keep hkx.e)
  have hz16 := hw.size
  clear hkx
  have HBb16 := Lib.hid hst
  clear hst hkin hc hw
  have HKF := Lib.hid (HKF.out.trans HK16.out)
  clear HK16
  obtain ⟨w17, hw17⟩ : ∃ W, Hid (w16.alloc (.cells (#[.int .i64 5, .int .i64 0, .int .i64 0, .string ⟨#[]⟩, .string ⟨#[]⟩, .int .i64 0, .int .i64 0, .slice none 0 0, .string ⟨#[]⟩, .int .i64 0, .slice (some ⟨w14.heap.size, 0, none⟩) 1 1, .slice A16r l16r c16r, .slice none 0 0]) 75) = W) := ⟨_, Lib.hid rfl⟩
  have hb : Below w16.heap.size w16 w17 := by rw [← hw17.out]; exact (Below.refl _ _).alloc (Nat.le_refl _) _
  have HY17 : Hid (w17.heap[w16.heap.size]? = some (.cells (cmCells 5 ⟨#[]⟩ (some ⟨w14.heap.size, 0, none⟩) 1 1 A16r l16r c16r none 0 0) 75 (0, 0))) := Lib.hid (by rw [← hw17.out]; exact Array.getElem?_push_size)
  have hkx := KeptX.below hb
  have HM17 := Lib.hid (HM16.out.below hb)
  have HX17 := Lib.hid (HX16.out.trans' hkx)
  have HEa17 := Lib.hid (HEa16.out.keep hkx.e)
  have HBb17 := Lib.hid (HBb16.out.kept hkx)
  have hz17 := hb.size
  clear hkx
  clear hb
  have HSF := Lib.hid (HS4.out.kept HX17.out)
  have hST : StIn w17 (fun b => w.heap.size ≤ b ∧ some b ≠ blk Ar) (d + 1) (.agg (cmCells 5 ⟨#[]⟩ (some ⟨w14.heap.size, 0, none⟩) 1 1 A16r l16r c16r none 0 0)) (1 + [n14].sum + ns16.sum + ([] : List Nat).sum) := stIn_comp (kind := 5) ⟨by omega, by omega⟩ (by decide) HEa17.out (HBb17.out.row.mono (fun b _ hb => HS4.out.beyond hww (Nat.le_trans (show w4.heap.size ≤ w15.heap.size by omega) hb))) (StRow.nil _ _ _)
  have HST := Lib.hid hST
  have hwf : w.heap.size ≤ w17.heap.size := HM17.out.went.size
  clear hST
  go_wp2_with (at_builtin; rw [hw17.out]; refine wpList_plain rfl (fun K hK => ?_); refine wp_append_one _ _ rfl w.heap.size (w16.heap.size) (d + 1) l c 1 (1 + [n14].sum + ns16.sum + ([] : List Nat).sum) Ar ns (cmCells 5 ⟨#[]⟩ (some ⟨w14.heap.size, 0, none⟩) 1 1 A16r l16r c16r none 0 0) rfl HSF.out rfl HY17.out rfl (cmCells_one _ _ _ _ _ _ _ _ _ _ _) HST.out (by omega) hwf ?_; intro A3 c3 w18 hgrow hplace hst7; have HMF := Lib.hid (HM17.out.rows HSF.out (Nat.le_refl _) (fun p hp => absurd hp (by simp)) hgrow); have HSL := Lib.hid hst7; clear hgrow hplace hst7; refine hK _ _ ?_)
  refine HR.out _ _ ?_
  exact ⟨_, _, _, _, _, _, _, _, _, _, _, _, _, _, _, _, _, _, _, _, _, _, _, _, _, _, _, _, _, _, _, _, _, _, _, _, _, _, _, _, _, _, _, _, _, _, _, _, _, _, _, _, _, _, _, _, _, _, _, _, _, _, _, _, _, _, _, _, _, _, _, _, _, _, _, _, _, _, _, _, _, _, _, _, _, _, _, _, _, _, _, _, _, _, _, _, _, _, _, _, _, _, _, _, _, _, _, _, _, _, _, _, _, _, _, _, _, _, _, _, _, _, _, _, _, _, _, _, _, _, _, _, _, _, _, _, _, _, _, _, _, _, _, _, _, _, _, _, _, _, _, _, _, _, _, _, _, _, _, _, _, _, _, _, _, _, _, _, _, _, _, _, _, _, _, _, _, _, _, _, _, _, _, _, _, _, _, _, _, _, _, _, _, _, _, _, _, _, _, _, _, _, _, _, _, _, _, _, _, _, _, _, _, _, _, _, _, _, _, _, _, _, _, _, _, _, _, _, _, _, _, _, _, _, _, _, _, _, _, _, _, _, _, _, _, _, _, _, _, l + 1, c3, A3, ns ++ [1 + [n14].sum + ns16.sum + ([] : List Nat).sum], _, rfl, by omega, HSL.out, HKF.out, by dsimp only; omega, by dsimp only; omega, by rw [List.sum_append]; simp only [List.sum_cons, List.sum_nil]; (try dsimp only); omega, HMF.out⟩
 ·have e0 := HM13.out.cx.maker.cell 0 (.pointer (some ⟨T, 0, none⟩)) rfl
  dsimp only at e0
  go_wp2_with fail
  refine (assign_any B ⟨M, T, f, funcs, count1, left4, P, S1, Q1, R1, pl, pc, sl1, sc1, ql1, qc1, rl1, rc1, A, len, cap⟩ w13 HM13.out.cx).mono ?_
  rintro e w19 ⟨kd, fn, A1a, l1a, c1a, A2a, l2a, c2a, na, nb, rfl, hkd, hfn, hra, hrb, hsm, hc, hw⟩
  have hkx := hw.keptX
  have HM19 := Lib.hid (HM13.out.turned hc hw)
  have HX19 := Lib.hid (HX13.out.trans' hkx)
  have hz19 := hw.size
  clear hkx
  have HEa := Lib.hid hra
  have HEb := Lib.hid hrb
  clear hra hrb hc hw
  unfold asCells
  obtain ⟨w20, hw20⟩ : ∃ W, Hid (w19.alloc (.cells (#[.int .i64 (kd : Int), .int .i64 0, .int .i64 0, .string ⟨#[]⟩, .string ⟨#[]⟩, .int .i64 0, .int .i64 0, .slice A1a l1a c1a, .string fn, .int .i64 0, .slice A2a l2a c2a, .slice none 0 0, .slice none 0 0]) 75) = W) := ⟨_, Lib.hid rfl⟩
  have hb : Below w19.heap.size w19 w20 := by rw [← hw20.out]; exact (Below.refl _ _).alloc (Nat.le_refl _) _
  have HY20 : Hid (w20.heap[w19.heap.size]? = some (.cells (asCells kd fn A1a l1a c1a A2a l2a c2a) 75 (0, 0))) := Lib.hid (by rw [← hw20.out]; exact Array.getElem?_push_size)
  have hkx := KeptX.below hb
  have HM20 := Lib.hid (HM19.out.below hb)
  have HX20 := Lib.hid (HX19.out.trans' hkx)
  have HEa20 := Lib.hid (HEa.out.keep hkx.e)
  have HEb20 := Lib.hid (HEb.out.keep hkx.e)
  have hz20 := hb.size
  clear hkx
  clear hb
  have HSF := Lib.hid (HS4.out.kept HX20.out)
  have hST : StIn w20 (fun b => w.heap.size ≤ b ∧ some b ≠ blk Ar) (d + 1) (.agg (asCells kd fn A1a l1a c1a A2a l2a c2a)) (1 + na.sum + nb.sum) := stIn_plain hkd hfn HEa20.out HEb20.out rfl rfl _ d
  have HST := Lib.hid hST
  have hwf : w.heap.size ≤ w20.heap.size := HM20.out.went.size
  clear hST
  go_wp2_with (at_builtin; rw [hw20.out]; refine wpList_plain rfl (fun K hK => ?_); refine wp_append_one _ _ rfl w.heap.size (w19.heap.size) (d + 1) l c 1 (1 + na.sum + nb.sum) Ar ns (asCells kd fn A1a l1a c1a A2a l2a c2a) rfl HSF.out rfl HY20.out rfl (asCells_one _ _ _ _ _ _ _ _) HST.out (by omega) hwf ?_; intro A3 c3 w21 hgrow hplace hst7; have HMF := Lib.hid (HM20.out.rows HSF.out (Nat.le_refl _) (fun p hp => absurd hp (by simp)) hgrow); have HSL := Lib.hid hst7; clear hgrow hplace hst7; refine hK _ _ ?_)
  refine HR.out _ _ ?_
  exact ⟨_, _, _, _, _, _, _, _, _, _, _, _, _, _, _, _, _, _, _, _, _, _, _, _, _, _, _, _, _, _, _, _, _, _, _, _, _, _, _, _, _, _, _, _, _, _, _, _, _, _, _, _, _, _, _, _, _, _, _, _, _, _, _, _, _, _, _, _, _, _, _, _, _, _, _, _, _, _, _, _, _, _, _, _, _, _, _, _, _, _, _, _, _, _, _, _, _, _, _, _, _, _, _, _, _, _, _, _, _, _, _, _, _, _, _, _, _, _, _, _, _, _, _, _, _, _, _, _, _, _, _, _, _, _, _, _, _, _, _, _, _, _, _, _, _, _, _, _, _, _, _, _, _, _, _, _, _, _, _, _, _, _, _, _, _, _, _, _, _, _, _, _, _, _, _, _, _, _, _, _, _, _, _, _, _, _, _, _, _, _, _, _, _, _, _, _, _, _, _, _, _, _, _, _, _, _, _, _, _, _, _, _, _, _, _, _, _, _, _, _, _, _, _, _, _, _, _, _, _, _, _, _, _, _, _, _, _, _, _, _, _, _, _, _, _, _, _, _, _, l + 1, c3, A3, ns ++ [1 + na.sum + nb.sum], _, rfl, by omega, HSL.out, HKF.out, by dsimp only; omega, by dsimp only; omega, by rw [List.sum_append]; simp only [List.sum_cons, List.sum_nil]; (try dsimp only); omega, HMF.out⟩
end Go.Proofs.YtchibamdkaejdaaDoor
namespace Go.Proofs.YtchibamdkaejdaaDoor
open Go.RowKit
variable {lo : Nat}

set_option maxHeartbeats 0 in
set_option maxRecDepth 100000 in
theorem sw_any (B : Nat) (nest d : Nat) (w w4 : World) (most k l c : Nat) (M T : Nat) (f funcs count0 left0 count1 left1 left4 r : Int) (P S0 Q0 R0 S1 Q1 R1 Ar : Option Addr) (pl pc sl0 sc0 ql0 qc0 rl0 rc0 sl1 sc1 ql1 qc1 rl1 rc1 : Nat) (A : Option Addr) (len cap : Nat) (ns : List Nat) (hnest : nest ≤ 4) (HIH : Hid (nest < 4 → BodyAt (nest + 1) d)) (HIL : Hid (nest < 4 → LoopAt nest d)) (H0 : Hid (M < w.heap.size)) (hmost : most ≤ 10) (hlt : k < most) (hl : l ≤ 2 * k) (hz4 : w.heap.size ≤ w4.heap.size) (hr0 : 0 ≤ r) (hr1 : r < 16) (hleft : left1 ≤ left0) (hcl : count1 + left1 ≤ count0 + left0) (hsum : (ns.sum : Int) ≤ 100 * (left0 - left1)) (hleft4 : left1 = left4 + 1) (n1 : 0 ≤ count1) (n2 : 0 ≤ left4) (n3 : count1 + left4 ≤ 21) (HKF : Hid (Kin ⟨M, T, f, funcs, count0, left0, P, S0, Q0, R0, pl, pc, sl0, sc0, ql0, qc0, rl0, rc0, A, len, cap⟩ ⟨M, T, f, funcs, count1, left4, P, S1, Q1, R1, pl, pc, sl1, sc1, ql1, qc1, rl1, rc1, A, len, cap⟩)) (HM4 : Hid (Mks lo B ⟨M, T, f, funcs, count1, left4, P, S1, Q1, R1, pl, pc, sl1, sc1, ql1, qc1, rl1, rc1, A, len, cap⟩ w [] w4)) (HS4 : Hid (StsAt w4 w.heap.size (d + 1) Ar l c ns)) {x3 x4 x5 x6 x10 x11 x12 x13 x14 x15 x16 x17 x18 x19 x20 x21 x22 x23 x24 x25 x26 x27 x28 x29 x30 x31 x32 x33 x34 x35 x36 x37 x38 x39 x40 x41 x42 x43 x44 x45 x46 x47 x48 x49 x50 x51 x52 x53 x54 x55 x56 x57 x58 x59 x60 x61 x62 x63 x64 x65 x66 x67 x68 x69 x70 x71 x72 x73 x74 x75 x76 x77 x78 x79 x80 x81 x82 x83 x84 x85 x86 x87 x88 x89 x90 x91 x92 x93 x94 x95 x96 x97 x98 x99 x100 x101 x102 x103 x104 x105 x106 x107 x108 x109 x110 x111 x112 x113 x114 x115 x116 x117 x118 x119 x120 x121 x122 x123 x124 x125 x126 x127 x128 x129 x130 x131 x132 x133 x134 x135 x136 x137 x138 x139 x140 x141 x142 x143 x144 x145 x146 x147 x148 x149 x150 x151 x152 x153 x154 x155 x156 x157 x158 x159 x160 x161 x162 x163 x164 x165 x166 x167 x168 x169 x170 x171 x172 x173 x174 x175 x176 x177 x178 x179 x180 x181 x182 x183 x184 x185 x186 x187 x188 x189 x190 x191 x192 x193 x194 x195 x196 x197 x198 x199 x200 x201 x202 x203 x204 x205 x206 x207 x208 x209 x210 x211 x212 x213 x214 x215 x216 x217 x218 x219 x220 x221 x222 x223 x224 x225 x226 x227 x228 x229 x230 x231 x232 x233 x234 x235 x236 x237 x238 x239 x240 x241 x242 x243 x244 x245 x246 x247 x248 x249 x250 x251 x252 x253 x254 x255 x256 x257 x258 : Value} (R : Exit → Act → World → Prop) (hR : ∀ a' w', SwEnd lo B w M nest most k l d left0 count0 ⟨M, T, f, funcs, count0, left0, P, S0, Q0, R0, pl, pc, sl0, sc0, ql0, qc0, rl0, rc0, A, len, cap⟩ x3 x4 x5 x6 x258 a' w' → R .normal a' w') (hRp : ∀ c (a : Act) (d : Nat) (v : Value) w, R (.panic c) (a.put (some d) v) w → R (.panic c) a w) : Code.wp Tryd.prog swBlock R ⟨#[.pointer (some ⟨M, 0, none⟩), .int .i64 nest, .int .i64 most, x3, x4, x5, x6, .slice Ar l c, .int .i64 k, .int .i64 r, x10, x11, x12, x13, x14, x15, x16, x17, x18, x19, x20, x21, x22, x23, x24, x25, x26, x27, x28, x29, x30, x31, x32, x33, x34, x35, x36, x37, x38, x39, x40, x41, x42, x43, x44, x45, x46, x47, x48, x49, x50, x51, x52, x53, x54, x55, x56, x57, x58, x59, x60, x61, x62, x63, x64, x65, x66, x67, x68, x69, x70, x71, x72, x73, x74, x75, x76, x77, x78, x79, x80, x81, x82, x83, x84, x85, x86, x87, x88, x89, x90, x91, x92, x93, x94, x95, x96, x97, x98, x99, x100, x101, x102, x103, x104, x105, x106, x107, x108, x109, x110, x111, x112, x113, x114, x115, x116, x117, x118, x119, x120, x121, x122, x123, x124, x125, x126, x127, x128, x129, x130, x131, x132, x133, x134, x135, x136, x137, x138, x139, x140, x141, x142, x143, x144, x145, x146, x147, x148, x149, x150, x151, x152, x153, x154, x155, x156, x157, x158, x159, x160, x161, x162, x163, x164, x165, x166, x167, x168, x169, x170, x171, x172, x173, x174, x175, x176, x177, x178, x179, x180, x181, x182, x183, x184, x185, x186, x187, x188, x189, x190, x191, x192, x193, x194, x195, x196, x197, x198, x199, x200, x201, x202, x203, x204, x205, x206, x207, x208, x209, x210, x211, x212, x213, x214, x215, x216, x217, x218, x219, x220, x221, x222, x223, x224, x225, x226, x227, x228, x229, x230, x231, x232, x233, x234, x235, x236, x237, x238, x239, x240, x241, x242, x243, x244, x245, x246, x247, x248, x249, x250, x251, x252, x253, x254, x255, x256, x257, x258], []⟩ w4 := by
 have hcase : (r < 3 ∧ count1 < 14) ∨ (r < 3 ∧ ¬ count1 < 14 ∧ r ≠ 3 ∧ r ≠ 4 ∧ r ≠ 5 ∧ r ≠ 6 ∧ r ≠ 7 ∧ r ≠ 8 ∧ r ≠ 9) ∨ (r = 3 ∧ nest < 4) ∨ (r = 3 ∧ ¬ nest < 4) ∨ (r = 4 ∧ nest < 4 ∧ count1 < 14) ∨ (r = 4 ∧ ¬ nest < 4) ∨ (r = 4 ∧ nest < 4 ∧ ¬ count1 < 14) ∨ (r = 5 ∧ nest < 4 ∧ count1 < 14) ∨ (r = 5 ∧ ¬ nest < 4) ∨ (r = 5 ∧ nest < 4 ∧ ¬ count1 < 14) ∨ (r = 6) ∨ (r = 7) ∨ (r = 8) ∨ (r = 9 ∧ nest < 4) ∨ (r = 9 ∧ ¬ nest < 4) ∨ (¬ r < 3 ∧ r ≠ 3 ∧ r ≠ 4 ∧ r ≠ 5 ∧ r ≠ 6 ∧ r ≠ 7 ∧ r ≠ 8 ∧ r ≠ 9) := by omega
 rcases hcase with h | h | h | h | h | h | h | h | h | h | h | h | h | h | h | h
 ·exact sw_decl B nest d w w4 most k l c M T f funcs count0 left0 count1 left1 left4 r P S0 Q0 R0 S1 Q1 R1 Ar pl pc sl0 sc0 ql0 qc0 rl0 rc0 sl1 sc1 ql1 qc1 rl1 rc1 A len cap ns hnest HIH HIL H0 hmost hlt hl hz4 hr0 hr1 hleft hcl hsum hleft4 n1 n2 n3 HKF HM4 HS4 R hR h
 ·exact sw_as0 B nest d w w4 most k l c M T f funcs count0 left0 count1 left1 left4 r P S0 Q0 R0 S1 Q1 R1 Ar pl pc sl0 sc0 ql0 qc0 rl0 rc0 sl1 sc1 ql1 qc1 rl1 rc1 A len cap ns hnest HIH HIL H0 hmost hlt hl hz4 hr0 hr1 hleft hcl hsum hleft4 n1 n2 n3 HKF HM4 HS4 R hR h
 ·exact sw_if B nest d w w4 most k l c M T f funcs count0 left0 count1 left1 left4 r P S0 Q0 R0 S1 Q1 R1 Ar pl pc sl0 sc0 ql0 qc0 rl0 rc0 sl1 sc1 ql1 qc1 rl1 rc1 A len cap ns hnest HIH HIL H0 hmost hlt hl hz4 hr0 hr1 hleft hcl hsum hleft4 n1 n2 n3 HKF HM4 HS4 R hR h
 ·exact sw_as3 B nest d w w4 most k l c M T f funcs count0 left0 count1 left1 left4 r P S0 Q0 R0 S1 Q1 R1 Ar pl pc sl0 sc0 ql0 qc0 rl0 rc0 sl1 sc1 ql1 qc1 rl1 rc1 A len cap ns hnest HIH HIL H0 hmost hlt hl hz4 hr0 hr1 hleft hcl hsum hleft4 n1 n2 n3 HKF HM4 HS4 R hR h
 ·exact sw_loop B nest d w w4 most k l c M T f funcs count0 left0 count1 left1 left4 r P S0 Q0 R0 S1 Q1 R1 Ar pl pc sl0 sc0 ql0 qc0 rl0 rc0 sl1 sc1 ql1 qc1 rl1 rc1 A len cap ns hnest HIH HIL H0 hmost hlt hl hz4 hr0 hr1 hleft hcl hsum hleft4 n1 n2 n3 HKF HM4 HS4 R hR h
 ·exact sw_as4 B nest d w w4 most k l c M T f funcs count0 left0 count1 left1 left4 r P S0 Q0 R0 S1 Q1 R1 Ar pl pc sl0 sc0 ql0 qc0 rl0 rc0 sl1 sc1 ql1 qc1 rl1 rc1 A len cap ns hnest HIH HIL H0 hmost hlt hl hz4 hr0 hr1 hleft hcl hsum hleft4 n1 n2 n3 HKF HM4 HS4 R hR h
 ·exact sw_as4c B nest d w w4 most k l c M T f funcs count0 left0 count1 left1 left4 r P S0 Q0 R0 S1 Q1 R1 Ar pl pc sl0 sc0 ql0 qc0 rl0 rc0 sl1 sc1 ql1 qc1 rl1 rc1 A len cap ns hnest HIH HIL H0 hmost hlt hl hz4 hr0 hr1 hleft hcl hsum hleft4 n1 n2 n3 HKF HM4 HS4 R hR h
 ·exact sw_try B nest d w w4 most k l c M T f funcs count0 left0 count1 left1 left4 r P S0 Q0 R0 S1 Q1 R1 Ar pl pc sl0 sc0 ql0 qc0 rl0 rc0 sl1 sc1 ql1 qc1 rl1 rc1 A len cap ns hnest HIH HIL H0 hmost hlt hl hz4 hr0 hr1 hleft hcl hsum hleft4 n1 n2 n3 HKF HM4 HS4 R hR hRp h
 ·exact sw_as5 B nest d w w4 most k l c M T f funcs count0 left0 count1 left1 left4 r P S0 Q0 R0 S1 Q1 R1 Ar pl pc sl0 sc0 ql0 qc0 rl0 rc0 sl1 sc1 ql1 qc1 rl1 rc1 A len cap ns hnest HIH HIL H0 hmost hlt hl hz4 hr0 hr1 hleft hcl hsum hleft4 n1 n2 n3 HKF HM4 HS4 R hR h
 ·exact sw_as5c B nest d w w4 most k l c M T f funcs count0 left0 count1 left1 left4 r P S0 Q0 R0 S1 Q1 R1 Ar pl pc sl0 sc0 ql0 qc0 rl0 rc0 sl1 sc1 ql1 qc1 rl1 rc1 A len cap ns hnest HIH HIL H0 hmost hlt hl hz4 hr0 hr1 hleft hcl hsum hleft4 n1 n2 n3 HKF HM4 HS4 R hR h
 ·exact sw_print B nest d w w4 most k l c M T f funcs count0 left0 count1 left1 left4 r P S0 Q0 R0 S1 Q1 R1 Ar pl pc sl0 sc0 ql0 qc0 rl0 rc0 sl1 sc1 ql1 qc1 rl1 rc1 A len cap ns hnest HIH HIL H0 hmost hlt hl hz4 hr0 hr1 hleft hcl hsum hleft4 n1 n2 n3 HKF HM4 HS4 R hR h
 ·exact sw_ret B nest d w w4 most k l c M T f funcs count0 left0 count1 left1 left4 r P S0 Q0 R0 S1 Q1 R1 Ar pl pc sl0 sc0 ql0 qc0 rl0 rc0 sl1 sc1 ql1 qc1 rl1 rc1 A len cap ns hnest HIH HIL H0 hmost hlt hl hz4 hr0 hr1 hleft hcl hsum hleft4 n1 n2 n3 HKF HM4 HS4 R hR h
 ·exact sw_throw B nest d w w4 most k l c M T f funcs count0 left0 count1 left1 left4 r P S0 Q0 R0 S1 Q1 R1 Ar pl pc sl0 sc0 ql0 qc0 rl0 rc0 sl1 sc1 ql1 qc1 rl1 rc1 A len cap ns hnest HIH HIL H0 hmost hlt hl hz4 hr0 hr1 hleft hcl hsum hleft4 n1 n2 n3 HKF HM4 HS4 R hR h
 ·exact sw_while B nest d w w4 most k l c M T f funcs count0 left0 count1 left1 left4 r P S0 Q0 R0 S1 Q1 R1 Ar pl pc sl0 sc0 ql0 qc0 rl0 rc0 sl1 sc1 ql1 qc1 rl1 rc1 A len cap ns hnest HIH HIL H0 hmost hlt hl hz4 hr0 hr1 hleft hcl hsum hleft4 n1 n2 n3 HKF HM4 HS4 R hR h
 ·exact sw_as9 B nest d w w4 most k l c M T f funcs count0 left0 count1 left1 left4 r P S0 Q0 R0 S1 Q1 R1 Ar pl pc sl0 sc0 ql0 qc0 rl0 rc0 sl1 sc1 ql1 qc1 rl1 rc1 A len cap ns hnest HIH HIL H0 hmost hlt hl hz4 hr0 hr1 hleft hcl hsum hleft4 n1 n2 n3 HKF HM4 HS4 R hR h
 ·exact sw_as10 B nest d w w4 most k l c M T f funcs count0 left0 count1 left1 left4 r P S0 Q0 R0 S1 Q1 R1 Ar pl pc sl0 sc0 ql0 qc0 rl0 rc0 sl1 sc1 ql1 qc1 rl1 rc1 A len cap ns hnest HIH HIL H0 hmost hlt hl hz4 hr0 hr1 hleft hcl hsum hleft4 n1 n2 n3 HKF HM4 HS4 R hR h
end Go.Proofs.YtchibamdkaejdaaDoor
namespace Go.Proofs.YtchibamdkaejdaaDoor
open Go.RowKit
variable {lo : Nat}

/-- One sub-program of a program put in place of another. -/
def onFst (f : Code → Code) : Code → Code
 | .seq a b => .seq (f a) b
 | c => c
def onSnd (f : Code → Code) : Code → Code
 | .seq a b => .seq a (f b)
 | c => c
def onIn (f : Code → Code) : Code → Code
 | .block n c => .block n (f c)
 | .loop c => .loop (f c)
 | c => c
/-- The round of the generator's stmts, and with another program in its switch's place. -/
noncomputable def stRound : Code := cIn (cIn (cSnd (cFst (cSnd (cSnd (Tryd.f26.body.getD .skip))))))
noncomputable def stOuter (X : Code) : Code := onSnd (onFst (onIn (onSnd (onSnd (fun _ => X))))) stRound
theorem stmts_code : stRound = stOuter swBlock := by kernel_rfl
set_option linter.unusedSimpArgs false in
set_option linter.unusedVariables false in
set_option maxHeartbeats 0 in
set_option maxRecDepth 100000 in
theorem stmts_any (nest d : Nat) (hnest : nest ≤ 4) (ih : nest < 4 → BodyAt (nest + 1) d) (il : nest < 4 → LoopAt nest d) : StmtsAt nest (d + 1) := by
 intro lo B m w most hmost h
 have HIH := Lib.hid ih
 have HIL := Lib.hid il
 clear ih il
 obtain ⟨M, T, f, funcs, count0, left0, P, S0, Q0, R0, pl, pc, sl0, sc0, ql0, qc0, rl0, rc0, A, len, cap⟩ := m
 have H0 : Hid (Mks lo B ⟨M, T, f, funcs, count0, left0, P, S0, Q0, R0, pl, pc, sl0, sc0, ql0, qc0, rl0, rc0, A, len, cap⟩ w [] w) := Lib.hid ⟨h, Went.refl _ _ _, Nat.le_trans h.loB h.bW, fun p hp => absurd hp (by simp)⟩
 clear h
 go_enter Tryd.func26, Tryd.ntmps26
 go_wp2_with fail
 go_loopw [7, 8] (fun v i wr => RelS lo B ⟨M, T, f, funcs, count0, left0, P, S0, Q0, R0, pl, pc, sl0, sc0, ql0, qc0, rl0, rc0, A, len, cap⟩ w (d + 1) most v i wr) (fun _ i _ => most - (intOf i).toNat)
 case atStart => exact ⟨0, 0, 0, none, [], _, rfl, Nat.zero_le _, rfl, Nat.zero_le _, StsAt.nil _ _ _, Kin.refl _, Int.le_refl _, Int.le_refl _, by simp, H0.out⟩
 case round =>
  show Code.wp _ stRound _ _ _
  rw [stmts_code]
  simp only [stOuter, stRound, cFst, cSnd, cIn, onFst, onSnd, onIn, Tryd.f26, Option.getD]
  obtain ⟨k, l, c, Ar, ns, m1, rfl, hk, rfl, hl, hsts, hkin, hleft, hcl, hsum, hmks⟩ := hrel
  obtain ⟨M1, T1, f1, funcs1, count1, left1, P1, S1, Q1, R1, pl1, pc1, sl1, sc1, ql1, qc1, rl1, rc1, A1, len1, cap1⟩ := m1
  have hk1 := hkin
  obtain ⟨z1, z2, z3, z4, z5, z6, z7, z8, z9, z10⟩ := hk1.lets
  dsimp only at z1 z2 z3 z4 z5 z6 z7 z8 z9 z10
  subst z1 z2 z3 z4 z5 z6 z7 z8 z9 z10
  dsimp only at hleft hcl hsum
  have HKF := Lib.hid hk1
  have HS1 := Lib.hid hsts
  have HM1 := Lib.hid hmks
  obtain ⟨n1, n2, n3, n4, n5, n6, n7, n8, n9⟩ := hmks.cx.num
  dsimp only at n1 n2 n3 n4 n5 n6 n7 n8 n9
  have e0 := hmks.cx.maker.cell 0 (.pointer (some ⟨T, 0, none⟩)) rfl
  have e8 := hmks.cx.maker.cell 8 (.int .i64 left1) rfl
  dsimp only at e0 e8
  clear hkin hk1 hsts hmks
  by_cases hlt : k < most
  ·by_cases hpos : 0 < left1
   ·go_wp2_with fail
    obtain ⟨pos, ht⟩ := HM1.out.cx.tape
    refine (more_any wr T A len cap pos ht).mono ?_
    rintro e w2 ⟨rfl, hm2⟩
    have HM2 := Lib.hid (HM1.out.grew hm2.grew)
    have HS2 := Lib.hid (HS1.out.kept (HM1.out.keptX hm2.grew))
    have hz2 := Nat.le_of_eq hm2.size.symm
    clear e0 e8 ht hm2
    generalize decide (pos < len) = bm
    cases bm with
    | false =>
     go_wp2_with fail
     go_ret
     exact ⟨Ar, l, c, ns, _, rfl, HS2.out, by omega, HKF.out, by dsimp only; omega, by dsimp only; omega, by dsimp only; omega, HM2.out.cx, HM2.out.went⟩
    | true =>
     have e0 := HM2.out.cx.maker.cell 0 (.pointer (some ⟨T, 0, none⟩)) rfl
     have e8 := HM2.out.cx.maker.cell 8 (.int .i64 left1) rfl
     have f8 := HM2.out.cx.maker.frozen 8
     dsimp only at e0 e8 f8
     have hwl : IntKind.i64.wrap (left1 - 1) = left1 - 1 := IntWalk.i64_in _ (by omega)
     obtain ⟨w3, hw3⟩ : ∃ W, Hid (w2.setCell ⟨M, 8, none⟩ (.int .i64 (left1 - 1)) = W) := ⟨_, Lib.hid rfl⟩
     have hmk3 := HM2.out.less (show 1 ≤ left1 by omega)
     dsimp only at hmk3
     rw [hw3.out] at hmk3
     have HM3 := Lib.hid hmk3
     have hkx3 : KeptX w2 w3 := by
      rw [← hw3.out]
      exact (HM2.out.cx.less (show 1 ≤ left1 by omega)).2.keptX
     have HS3 := Lib.hid (HS2.out.kept hkx3)
     have hz3 : w2.heap.size ≤ w3.heap.size := by rw [← hw3.out]; simp [World.setCell]
     have e0' := HM3.out.cx.maker.cell 0 (.pointer (some ⟨T, 0, none⟩)) rfl
     dsimp only at e0'
     rw [← hw3.out] at e0'
     clear hmk3 hkx3
     go_wp2_with fail
     rw [hw3.out]
     obtain ⟨pos3, ht3⟩ := HM3.out.cx.tape
     refine (next_any w3 T A len cap pos3 ht3 16 (by omega) (by omega)).mono ?_
     rintro e w4 ⟨r, t4, rfl, hr0, hr1, hm4⟩
     have HM4 := Lib.hid (HM3.out.grew hm4.grew)
     have HS4 := Lib.hid (HS3.out.kept (HM3.out.keptX hm4.grew))
     have hz4 := Nat.le_of_eq hm4.size.symm
     have hww : w.heap.size ≤ w4.heap.size := HM4.out.went.size
     clear e0 e8 f8 e0' ht3 hm4 hwl
     obtain ⟨left4, hl4⟩ : ∃ x, left1 - 1 = x := ⟨_, rfl⟩
     rw [hl4] at HM4
     have hleft4 : left1 = left4 + 1 := by omega
     have HKF : Hid (Kin ⟨M, T, f, funcs, count0, left0, P, S0, Q0, R0, pl, pc, sl0, sc0, ql0, qc0, rl0, rc0, A, len, cap⟩ ⟨M, T, f, funcs, count1, left4, P, S1, Q1, R1, pl, pc, sl1, sc1, ql1, qc1, rl1, rc1, A, len, cap⟩) := Lib.hid ⟨rfl, rfl, rfl, rfl, rfl, rfl, rfl, rfl, rfl, rfl, HKF.out.s, HKF.out.q, HKF.out.r, HKF.out.count⟩
     clear hl4
     have hH0 : Hid (M < w.heap.size) := Lib.hid H0.out.cx.maker.lt
     go_wp2_with fail
     refine sw_any B nest d w w4 most k l c M T f funcs count0 left0 count1 left1 left4 r P S0 Q0 R0 S1 Q1 R1 Ar pl pc sl0 sc0 ql0 qc0 rl0 rc0 sl1 sc1 ql1 qc1 rl1 rc1 A len cap ns hnest HIH HIL hH0 hmost hlt hl hww hr0 hr1 hleft hcl hsum hleft4 n1 (by omega) (by omega) HKF HM4 HS4 _ ?_ ?_
     ·intro a' w' hSE
      obtain ⟨x, l3, c3, A3, ns3, m3, rfl, hl3, hst3, hk3, hleft3, hcl3, hsum3, hm3⟩ := hSE.fn
      go_wp2_with fail
      go_roundw
      case rel => exact ⟨k + 1, l3, c3, A3, ns3, m3, by go_num, by omega, rfl, by omega, hst3, hk3, hleft3, hcl3, hsum3, hm3⟩
      case measure => simp [intOf]; omega
     ·exact fun _ _ _ _ _ h => h
   ·obtain rfl : left1 = 0 := by omega
    go_wp2_with fail
    go_ret
    exact ⟨Ar, l, c, ns, _, rfl, HS1.out, by omega, HKF.out, by dsimp only; omega, by dsimp only; omega, by dsimp only; omega, HM1.out.cx, HM1.out.went⟩
  ·obtain rfl : k = most := by omega
   go_wp2_with fail
   go_ret
   exact ⟨Ar, l, c, ns, _, rfl, HS1.out, by omega, HKF.out, by dsimp only; omega, by dsimp only; omega, by dsimp only; omega, HM1.out.cx, HM1.out.went⟩
end Go.Proofs.YtchibamdkaejdaaDoor
namespace Go.Proofs.YtchibamdkaejdaaDoor

theorem stmts_41 : StmtsAt 4 1 := stmts_any 4 0 (by omega) (fun h => absurd h (by omega)) (fun h => absurd h (by omega))
theorem stmts_32 : StmtsAt 3 2 := stmts_any 3 1 (by omega) (fun _ => body_any 4 1 stmts_41) (fun _ => loop_any 3 0 (by omega) (body_any 4 1 stmts_41))
theorem stmts_23 : StmtsAt 2 3 := stmts_any 2 2 (by omega) (fun _ => body_any 3 2 stmts_32) (fun _ => loop_any 2 1 (by omega) (body_any 3 2 stmts_32))
theorem stmts_14 : StmtsAt 1 4 := stmts_any 1 3 (by omega) (fun _ => body_any 2 3 stmts_23) (fun _ => loop_any 1 2 (by omega) (body_any 2 3 stmts_23))
end Go.Proofs.YtchibamdkaejdaaDoor
