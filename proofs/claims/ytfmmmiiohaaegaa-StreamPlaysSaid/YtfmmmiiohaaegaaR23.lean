/- The document's own tracker: a new stream stands behind all others. -/
import Derived.Test.YtfmmmiiohaaegaaRnone
import Derived.Test.YtfmmmiiohaaegaaPart
import Derived.BigRegion
import Derived.Deep.RegionLaw
namespace Go.Proofs.Ytfmmmiiohaaegaa
open Go.RowKit Go.Maps
set_option linter.unusedVariables false

set_option maxRecDepth 100000 in
set_option maxHeartbeats 4000000 in
theorem region23 {q qt cap0 g bg us : Nat} {M2 : Nat → Prop} {c : Cf} {fs : List Sm} {es : List En} (f : Int) (w4 : World) (h : RSat w4 q qt (.slice (some ⟨g, 0, none⟩) fs.length cap0) M2 c ⟨fs, es, us, bg + 1⟩) (fl : fs.length ≤ 16) (l : List Oper) (hl : l = opsAt Try.f13 23) (s2 s3 s4 s5 s6 s7 s8 s9 s10 s11 s12 s13 s14 s15 s16 s17 s18 s19 s20 s21 s22 s23 s24 s25 s26 s27 s28 s29 s30 s31 s32 s33 s34 s35 s36 s37 s38 s39 s40 s41 s42 s43 s44 s45 s46 s47 s48 s49 s50 s51 s52 s53 s54 s55 s56 s57 s58 s59 s60 s61 s62 s63 s64 s65 s66 s67 s68 s69 s70 s71 s72 s73 s74 s75 s76 s77 s78 s79 s80 s81 s82 s83 s84 s85 s86 s87 s88 s89 s90 s91 s92 s93 s94 s95 s96 s97 s98 s99 s100 s101 s102 s103 s104 s105 s106 s107 s108 s109 s110 s111 s112 s113 s114 s115 s116 s117 s118 s119 s120 s121 s122 s123 s124 s125 s126 s127 s128 s129 s130 s131 s132 s133 s134 s135 s136 s137 s138 s139 s140 s141 s142 s143 s144 s145 s146 s147 s148 s149 s150 s151 s152 s153 s154 s155 s156 s157 s158 s159 s160 s161 s162 s163 s164 s165 s166 s167 s168 s169 s170 s171 s172 s173 s174 s175 s176 s177 s178 s179 s180 s181 s182 s183 s184 s185 s186 s187 s188 s189 s190 s191 s192 s193 s194 s195 s196 s197 s198 s199 s200 s201 s202 s203 s204 s205 s206 s207 s208 s209 s210 s211 s212 s213 s214 s215 s216 s217 s218 s219 s220 s221 s222 s223 s224 s225 s226 s227 s228 s229 s230 s231 s232 s233 s234 s235 s236 s237 s238 s239 s240 s241 s242 s243 s244 s245 s246 s247 s248 s249 s250 : Value) :
    Code.wp Try.prog (Code.region 23 l.toArray true) (PostN fun a' w' => ∃ (w6 : World) (a6 : Option Addr) (n6 k6 : Nat) (r175 r176 r177 r178 r179 r180 r181 r182 r183 r184 r185 r186 r187 r188 r189 r190 r191 r192 r193 : Value), a' = { tmps := List.toArray (.pointer (some ⟨q, 0, none⟩) :: .int .i64 f :: s2 :: s3 :: s4 :: s5 :: s6 :: s7 :: s8 :: s9 :: s10 :: s11 :: s12 :: s13 :: s14 :: s15 :: s16 :: s17 :: s18 :: s19 :: s20 :: s21 :: s22 :: s23 :: s24 :: s25 :: s26 :: s27 :: s28 :: s29 :: s30 :: s31 :: s32 :: s33 :: s34 :: s35 :: s36 :: s37 :: s38 :: s39 :: s40 :: s41 :: s42 :: s43 :: s44 :: s45 :: s46 :: s47 :: s48 :: s49 :: s50 :: s51 :: s52 :: s53 :: s54 :: s55 :: s56 :: s57 :: s58 :: s59 :: s60 :: s61 :: s62 :: s63 :: s64 :: s65 :: s66 :: s67 :: s68 :: s69 :: s70 :: s71 :: s72 :: s73 :: s74 :: s75 :: s76 :: s77 :: s78 :: s79 :: s80 :: s81 :: s82 :: s83 :: s84 :: s85 :: s86 :: s87 :: s88 :: s89 :: s90 :: s91 :: s92 :: s93 :: s94 :: s95 :: s96 :: s97 :: s98 :: s99 :: s100 :: s101 :: s102 :: s103 :: s104 :: s105 :: s106 :: s107 :: s108 :: s109 :: s110 :: s111 :: s112 :: s113 :: s114 :: s115 :: s116 :: s117 :: s118 :: s119 :: s120 :: s121 :: s122 :: s123 :: s124 :: s125 :: s126 :: s127 :: s128 :: s129 :: s130 :: s131 :: s132 :: s133 :: s134 :: s135 :: s136 :: s137 :: s138 :: s139 :: s140 :: s141 :: s142 :: s143 :: s144 :: s145 :: s146 :: s147 :: s148 :: s149 :: s150 :: s151 :: s152 :: s153 :: s154 :: s155 :: s156 :: s157 :: s158 :: s159 :: s160 :: s161 :: s162 :: s163 :: s164 :: s165 :: s166 :: s167 :: s168 :: s169 :: s170 :: s171 :: s172 :: s173 :: s174 :: r175 :: r176 :: r177 :: r178 :: r179 :: r180 :: r181 :: r182 :: r183 :: r184 :: r185 :: r186 :: r187 :: r188 :: r189 :: r190 :: r191 :: r192 :: r193 :: s194 :: s195 :: s196 :: s197 :: s198 :: s199 :: s200 :: s201 :: s202 :: s203 :: s204 :: s205 :: s206 :: s207 :: s208 :: s209 :: s210 :: s211 :: s212 :: s213 :: s214 :: s215 :: s216 :: s217 :: s218 :: s219 :: s220 :: s221 :: s222 :: s223 :: s224 :: s225 :: s226 :: s227 :: s228 :: s229 :: s230 :: s231 :: s232 :: s233 :: s234 :: s235 :: s236 :: s237 :: s238 :: s239 :: s240 :: s241 :: s242 :: s243 :: s244 :: s245 :: s246 :: s247 :: s248 :: s249 :: s250 :: []), defers := [] } ∧ w' = w6.setCell ⟨q, 0, none⟩ (.slice a6 n6 k6) ∧ Owns w6 w4.heap.size 59 6 Sm.cells (.slice a6 n6 k6) (fs ++ [⟨bg + 1, Fl.start f, 0⟩]) ∧ Only none_ w4 w6) { tmps := List.toArray (.pointer (some ⟨q, 0, none⟩) :: .int .i64 f :: s2 :: s3 :: s4 :: s5 :: s6 :: s7 :: s8 :: s9 :: s10 :: s11 :: s12 :: s13 :: s14 :: s15 :: s16 :: s17 :: s18 :: s19 :: s20 :: s21 :: s22 :: s23 :: s24 :: s25 :: s26 :: s27 :: s28 :: s29 :: s30 :: s31 :: s32 :: s33 :: s34 :: s35 :: s36 :: s37 :: s38 :: s39 :: s40 :: s41 :: s42 :: s43 :: s44 :: s45 :: s46 :: s47 :: s48 :: s49 :: s50 :: s51 :: s52 :: s53 :: s54 :: s55 :: s56 :: s57 :: s58 :: s59 :: s60 :: s61 :: s62 :: s63 :: s64 :: s65 :: s66 :: s67 :: s68 :: s69 :: s70 :: s71 :: s72 :: s73 :: s74 :: s75 :: s76 :: s77 :: s78 :: s79 :: s80 :: s81 :: s82 :: s83 :: s84 :: s85 :: s86 :: s87 :: s88 :: s89 :: s90 :: s91 :: s92 :: s93 :: s94 :: s95 :: s96 :: s97 :: s98 :: s99 :: s100 :: s101 :: s102 :: s103 :: s104 :: s105 :: s106 :: s107 :: s108 :: s109 :: s110 :: s111 :: s112 :: s113 :: s114 :: s115 :: s116 :: s117 :: s118 :: s119 :: s120 :: s121 :: s122 :: s123 :: s124 :: s125 :: s126 :: s127 :: s128 :: s129 :: s130 :: s131 :: s132 :: s133 :: s134 :: s135 :: s136 :: s137 :: s138 :: s139 :: s140 :: s141 :: s142 :: s143 :: s144 :: s145 :: s146 :: s147 :: s148 :: s149 :: s150 :: s151 :: s152 :: s153 :: s154 :: s155 :: s156 :: s157 :: s158 :: s159 :: s160 :: s161 :: s162 :: s163 :: s164 :: s165 :: s166 :: s167 :: s168 :: s169 :: s170 :: s171 :: s172 :: s173 :: s174 :: s175 :: s176 :: s177 :: s178 :: s179 :: s180 :: s181 :: s182 :: s183 :: s184 :: s185 :: s186 :: s187 :: s188 :: s189 :: s190 :: s191 :: s192 :: s193 :: s194 :: s195 :: s196 :: s197 :: s198 :: s199 :: s200 :: s201 :: s202 :: s203 :: s204 :: s205 :: s206 :: s207 :: s208 :: s209 :: s210 :: s211 :: s212 :: s213 :: s214 :: s215 :: s216 :: s217 :: s218 :: s219 :: s220 :: s221 :: s222 :: s223 :: s224 :: s225 :: s226 :: s227 :: s228 :: s229 :: s230 :: s231 :: s232 :: s233 :: s234 :: s235 :: s236 :: s237 :: s238 :: s239 :: s240 :: s241 :: s242 :: s243 :: s244 :: s245 :: s246 :: s247 :: s248 :: s249 :: s250 :: []), defers := [] } w4 := by
  subst hl
  conv => arg 2; arg 2; arg 1; whnf
  have H5 := Lib.hid h
  clear h
  obtain ⟨i0, hi0, hz0, hz1, hz2⟩ := info_parts info_sm
  have I0 := Lib.hid hi0
  have I1 := Lib.hid hz0
  have I2 := Lib.hid hz1
  have I3 := Lib.hid hz2
  clear hi0 hz0 hz1 hz2
  have N0 := Lib.hid (Only.refl none_ w4)
  have lq4 := H5.out.row.lt
  have KQ := Lib.hid (fun w' (o : Only none_ w4 w') => (show w'.cell? ⟨q, 0, none⟩ = some (.slice (some ⟨g, 0, none⟩) fs.length cap0) ∧ w'.cell? ⟨q, 3, none⟩ = some (.int .i64 ((bg : Int) + 1)) ∧ w'.frozen? ⟨q, 0, none⟩ = false ∧ q < w'.heap.size from by
    have r := o.still H5.out.row
    exact ⟨by rw [r.cell]; rfl, by rw [r.cell]; rfl, r.frozen 0, r.lt⟩))
  have ONES := Lib.hid (show ∀ u ∈ ([.int .i64 ((bg : Int) + 1), .int .i64 f, .int .i64 f, .int .i64 1, .int .i64 0, .int .i64 0] : List Value), u.oneCell' = true from fun u hu => by simp only [List.mem_cons, List.not_mem_nil, or_false] at hu; rcases hu with rfl | rfl | rfl | rfl | rfl | rfl <;> rfl)
  have CSRC := Lib.hid (fun w' (o : Only none_ w4 w') => show ∀ j u, (fs.flatMap Sm.cells)[j]? = some u → w'.cell? ((Addr.mk g 0 none).add j) = some u from World.ownsRow.cells (H5.out.own.1.still o) (g := g) rfl)
  have EMP := Lib.hid (fun (W : World) (b : Nat) (r : Row W b 59 #[]) (hb : w4.heap.size ≤ b) => (show W.ownsRow w4.heap.size 59 6 (.slice (some ⟨b, 0, none⟩) 0 0) 0 [] from ⟨rfl, .inr ⟨b, 0, #[], rfl, hb, r, Nat.le_refl _, Nat.zero_le _, rfl, rfl⟩⟩))
  have NWC := Lib.hid (fun (W : World) (b : Nat) (r : Row W b 59 #[.int .i64 ((bg : Int) + 1), .int .i64 f, .int .i64 f, .int .i64 1, .int .i64 0, .int .i64 0]) => (show ∀ j u, ([.int .i64 ((bg : Int) + 1), .int .i64 f, .int .i64 f, .int .i64 1, .int .i64 0, .int .i64 0] : List Value)[j]? = some u → W.cell? ((Addr.mk b 0 none).add j) = some u from fun j u hj => by rw [add8, Nat.zero_add, r.cell, List.getElem?_toArray]; exact hj))
  have FIN := Lib.hid (show ∀ v2 w2', World.ownsRow w2' w4.heap.size 59 6 v2 (0 + fs.length + 1) ([] ++ fs.flatMap Sm.cells ++ [.int .i64 ((bg : Int) + 1), .int .i64 f, .int .i64 f, .int .i64 1, .int .i64 0, .int .i64 0]) → Owns w2' w4.heap.size 59 6 Sm.cells v2 (fs ++ [⟨bg + 1, Fl.start f, 0⟩]) from fun v2 w2' h => by
    unfold Owns
    rw [List.flatMap_append, List.length_append]
    simpa [Sm.cells, Fl.start] using h)
  -- the worlds at which the first append may stand, and what they are
  have WA := Lib.hid ((N0.out.alloc (.cells #[] 59)).drew)
  have WB := Lib.hid (((N0.out.alloc (.cells #[] 59)).alloc (.cells #[.int .i64 ((bg : Int) + 1), .int .i64 f, .int .i64 f, .int .i64 1, .int .i64 0, .int .i64 0] 59)).drew)
  have WC := Lib.hid (((N0.out.alloc (.cells #[.int .i64 ((bg : Int) + 1), .int .i64 f, .int .i64 f, .int .i64 1, .int .i64 0, .int .i64 0] 59)).alloc (.cells #[] 59)).drew)
  have WD := Lib.hid ((N0.out.alloc (.cells #[.int .i64 ((bg : Int) + 1), .int .i64 f, .int .i64 f, .int .i64 1, .int .i64 0, .int .i64 0] 59)).drew)
  obtain ⟨ea0, ea1, ea2, ea3⟩ := KQ.out _ WA.out
  obtain ⟨eb0, eb1, eb2, eb3⟩ := KQ.out _ WB.out
  obtain ⟨ec0, ec1, ec2, ec3⟩ := KQ.out _ WC.out
  obtain ⟨ee0, ee1, ee2, ee3⟩ := KQ.out _ WD.out
  obtain ⟨ed0, ed1, ed2, ed3⟩ := KQ.out _ N0.out.drew
  have zO : w4.heap.size ≤ (w4.alloc (.cells #[] 59)).drew.heap.size := WA.out.size
  have zB : w4.heap.size ≤ ((w4.alloc (.cells #[] 59)).alloc (.cells #[.int .i64 ((bg : Int) + 1), .int .i64 f, .int .i64 f, .int .i64 1, .int .i64 0, .int .i64 0] 59)).drew.heap.size := WB.out.size
  have zC : w4.heap.size ≤ ((w4.alloc (.cells #[.int .i64 ((bg : Int) + 1), .int .i64 f, .int .i64 f, .int .i64 1, .int .i64 0, .int .i64 0] 59)).alloc (.cells #[] 59)).drew.heap.size := WC.out.size
  have RA := Lib.hid ((Row.fresh w4 59 #[]).drew)
  have RB := Lib.hid (((Row.fresh w4 59 #[]).alloc (.cells #[.int .i64 ((bg : Int) + 1), .int .i64 f, .int .i64 f, .int .i64 1, .int .i64 0, .int .i64 0] 59)).drew)
  have RB2 := Lib.hid ((fresh_at (w4.alloc (.cells #[] 59)) 59 #[.int .i64 ((bg : Int) + 1), .int .i64 f, .int .i64 f, .int .i64 1, .int .i64 0, .int .i64 0] (w4.heap.size + 1) (by simp)).drew)
  have RC := Lib.hid ((fresh_at (w4.alloc (.cells #[.int .i64 ((bg : Int) + 1), .int .i64 f, .int .i64 f, .int .i64 1, .int .i64 0, .int .i64 0] 59)) 59 #[] (w4.heap.size + 1) (by simp)).drew)
  have RC2 := Lib.hid (((Row.fresh w4 59 #[.int .i64 ((bg : Int) + 1), .int .i64 f, .int .i64 f, .int .i64 1, .int .i64 0, .int .i64 0]).alloc (.cells #[] 59)).drew)
  have K3 := Lib.hid (fun w' (o : Only none_ w4 w') => (show w'.cell? ⟨q, 3, none⟩ = some (.int .i64 ((bg : Int) + 1)) from (KQ.out w' o).2.1))
  have K4 := Lib.hid (fun w' (o : Only none_ w4 w') (u : Value) => (show (w'.setCell ⟨q, 0, none⟩ u).cell? ⟨q, 3, none⟩ = some (.int .i64 ((bg : Int) + 1)) from by
    have r := (o.still H5.out.row).put 0 u
    rw [r.cell]; rfl))
  go_region_law
   (first
   | (refine step_append_mine8 rfl (.tmp 176) (.tmp 180) 44 rfl w4.heap.size 59 i0 _ 6 48 Try.underlying44 I0.out I1.out I2.out I3.out rfl (by decide) _ 0 [] ?_ (EMP.out _ _ RA.out (Nat.le_refl _)) ⟨g, 0, none⟩ fs.length cap0 (fs.flatMap Sm.cells) ?_ (sm_flat_len _) (CSRC.out _ WA.out) (sm_cells_one _) (by unfold maxLen; omega) (by omega) zO ?_
      · first | (simp [Act.eval]; done) | (simp [Act.eval, Act.put]; done)
      · first | (simp [Act.eval]; done) | (simp [Act.eval, Act.put]; done)
      intro v5 w5 hown5 hgrow5
      have O6 := Lib.hid (WA.out.trans (Only.of_grown hgrow5) (fun j hj q' => by have q2 : some j = some w4.heap.size := q'; injection q2; omega))
      have OW5 := Lib.hid hown5
      have R6 := Lib.hid (Row.fresh w5 59 #[.int .i64 ((bg : Int) + 1), .int .i64 f, .int .i64 f, .int .i64 1, .int .i64 0, .int .i64 0])
      have z5 : w4.heap.size ≤ w5.heap.size := O6.out.size
      have z6 : w4.heap.size ≤ (w5.alloc (.cells #[.int .i64 ((bg : Int) + 1), .int .i64 f, .int .i64 f, .int .i64 1, .int .i64 0, .int .i64 0] 59)).heap.size := (O6.out.alloc _).size
      obtain ⟨ef0, ef1, ef2, ef3⟩ := KQ.out _ O6.out
      obtain ⟨eg0, eg1, eg2, eg3⟩ := KQ.out _ (O6.out.alloc (.cells #[.int .i64 ((bg : Int) + 1), .int .i64 f, .int .i64 f, .int .i64 1, .int .i64 0, .int .i64 0] 59))
      have O7 := Lib.hid (O6.out.alloc (.cells #[.int .i64 ((bg : Int) + 1), .int .i64 f, .int .i64 f, .int .i64 1, .int .i64 0, .int .i64 0] 59))
      have OW7 := Lib.hid (World.ownsRow.alloc OW5.out (.cells #[.int .i64 ((bg : Int) + 1), .int .i64 f, .int .i64 f, .int .i64 1, .int .i64 0, .int .i64 0] 59))
      clear hown5 hgrow5)
   | (refine step_append_mine8 rfl (.tmp 176) (.tmp 180) 44 rfl w4.heap.size 59 i0 _ 6 48 Try.underlying44 I0.out I1.out I2.out I3.out rfl (by decide) _ 0 [] ?_ (EMP.out _ _ RB.out (Nat.le_refl _)) ⟨g, 0, none⟩ fs.length cap0 (fs.flatMap Sm.cells) ?_ (sm_flat_len _) (CSRC.out _ WB.out) (sm_cells_one _) (by unfold maxLen; omega) (by omega) zB ?_
      · first | (simp [Act.eval]; done) | (simp [Act.eval, Act.put]; done)
      · first | (simp [Act.eval]; done) | (simp [Act.eval, Act.put]; done)
      intro v5 w5 hown5 hgrow5
      have O6 := Lib.hid (WB.out.trans (Only.of_grown hgrow5) (fun j hj q' => by have q2 : some j = some w4.heap.size := q'; injection q2; omega))
      have OW5 := Lib.hid hown5
      have R6 := Lib.hid ((Only.of_grown hgrow5).row RB2.out (fun q' => by have q2 : some (w4.heap.size + 1) = some w4.heap.size := q'; injection q2; omega))
      have z5 : w4.heap.size ≤ w5.heap.size := O6.out.size
      obtain ⟨ef0, ef1, ef2, ef3⟩ := KQ.out _ O6.out
      clear hown5 hgrow5)
   | (refine step_append_mine8 rfl (.tmp 176) (.tmp 180) 44 rfl w4.heap.size 59 i0 _ 6 48 Try.underlying44 I0.out I1.out I2.out I3.out rfl (by decide) _ 0 [] ?_ (EMP.out _ _ RC.out (Nat.le_succ _)) ⟨g, 0, none⟩ fs.length cap0 (fs.flatMap Sm.cells) ?_ (sm_flat_len _) (CSRC.out _ WC.out) (sm_cells_one _) (by unfold maxLen; omega) (by omega) zC ?_
      · first | (simp [Act.eval]; done) | (simp [Act.eval, Act.put]; done)
      · first | (simp [Act.eval]; done) | (simp [Act.eval, Act.put]; done)
      intro v5 w5 hown5 hgrow5
      have O6 := Lib.hid (WC.out.trans (Only.of_grown hgrow5) (fun j hj q' => by have q2 : some j = some (w4.heap.size + 1) := q'; injection q2; omega))
      have OW5 := Lib.hid hown5
      have R6 := Lib.hid ((Only.of_grown hgrow5).row RC2.out (fun q' => by have q2 : some w4.heap.size = some (w4.heap.size + 1) := q'; injection q2; omega))
      have z5 : w4.heap.size ≤ w5.heap.size := O6.out.size
      obtain ⟨ef0, ef1, ef2, ef3⟩ := KQ.out _ O6.out
      clear hown5 hgrow5)
   | (refine step_append_mine8 rfl (.tmp 181) (.tmp 190) 44 rfl w4.heap.size 59 i0 _ 6 48 Try.underlying44 I0.out I1.out I2.out I3.out rfl (by decide) _ (0 + fs.length) _ ?_ OW7.out ⟨w5.heap.size, 0, none⟩ 1 1 [.int .i64 ((bg : Int) + 1), .int .i64 f, .int .i64 f, .int .i64 1, .int .i64 0, .int .i64 0] ?_ rfl (NWC.out _ _ R6.out) ONES.out (by unfold maxLen; omega) (by omega) z6 ?_
      · first | (simp [Act.eval]; done) | (simp [Act.eval, Act.put]; done)
      · first | (simp [Act.eval]; done) | (simp [Act.eval, Act.put]; done)
      intro v6 w6 hown6 hgrow6
      have W6 := Lib.hid (O7.out.trans (Only.of_grown hgrow6) (fun j hj q' => by have := (World.ownsRow.lt OW5.out j q'.symm).1; omega))
      have OW6 := Lib.hid (FIN.out _ _ hown6)
      obtain ⟨a6, n6, k6, rfl⟩ := own_form10 OW6.out
      obtain ⟨eh0, eh1, eh2, eh3⟩ := KQ.out _ W6.out
      clear hown6 hgrow6)
   | (refine step_append_mine8 rfl (.tmp 181) (.tmp 190) 44 rfl w4.heap.size 59 i0 _ 6 48 Try.underlying44 I0.out I1.out I2.out I3.out rfl (by decide) _ (0 + fs.length) _ ?_ OW5.out ⟨w4.heap.size + 1, 0, none⟩ 1 1 [.int .i64 ((bg : Int) + 1), .int .i64 f, .int .i64 f, .int .i64 1, .int .i64 0, .int .i64 0] ?_ rfl (NWC.out _ _ R6.out) ONES.out (by unfold maxLen; omega) (by omega) z5 ?_
      · first | (simp [Act.eval]; done) | (simp [Act.eval, Act.put]; done)
      · first | (simp [Act.eval]; done) | (simp [Act.eval, Act.put]; done)
      intro v6 w6 hown6 hgrow6
      have W6 := Lib.hid (O6.out.trans (Only.of_grown hgrow6) (fun j hj q' => by have := (World.ownsRow.lt OW5.out j q'.symm).1; omega))
      have OW6 := Lib.hid (FIN.out _ _ hown6)
      obtain ⟨a6, n6, k6, rfl⟩ := own_form10 OW6.out
      obtain ⟨eh0, eh1, eh2, eh3⟩ := KQ.out _ W6.out
      clear hown6 hgrow6)
   | (refine step_append_mine8 rfl (.tmp 181) (.tmp 190) 44 rfl w4.heap.size 59 i0 _ 6 48 Try.underlying44 I0.out I1.out I2.out I3.out rfl (by decide) _ (0 + fs.length) _ ?_ OW5.out ⟨w4.heap.size, 0, none⟩ 1 1 [.int .i64 ((bg : Int) + 1), .int .i64 f, .int .i64 f, .int .i64 1, .int .i64 0, .int .i64 0] ?_ rfl (NWC.out _ _ R6.out) ONES.out (by unfold maxLen; omega) (by omega) z5 ?_
      · first | (simp [Act.eval]; done) | (simp [Act.eval, Act.put]; done)
      · first | (simp [Act.eval]; done) | (simp [Act.eval, Act.put]; done)
      intro v6 w6 hown6 hgrow6
      have W6 := Lib.hid (O6.out.trans (Only.of_grown hgrow6) (fun j hj q' => by have := (World.ownsRow.lt OW5.out j q'.symm).1; omega))
      have OW6 := Lib.hid (FIN.out _ _ hown6)
      obtain ⟨a6, n6, k6, rfl⟩ := own_form10 OW6.out
      obtain ⟨eh0, eh1, eh2, eh3⟩ := KQ.out _ W6.out
      clear hown6 hgrow6)
   | fail)
  all_goals
    go_wp2_with fail
    exact ⟨w6, a6, n6, k6, _, _, _, _, _, _, _, _, _, _, _, _, _, _, _, _, _, _, _, rfl, rfl, OW6.out, W6.out⟩
end Go.Proofs.Ytfmmmiiohaaegaa
