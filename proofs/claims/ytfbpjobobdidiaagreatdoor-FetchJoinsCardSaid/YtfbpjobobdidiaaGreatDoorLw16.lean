/- What the laws of layer 16 share: an engine made behind a world; its calls; plain facts of the engine that the document fixes. -/
import Derived.Test.YtfbpjobobdidiaaGreatDoorNw16
import Derived.Test.YtfbpjobobdidiaaGreatDoorNx16
import Derived.Test.YtfbpjobobdidiaaGreatDoorFi16
import Derived.Test.YtfbpjobobdidiaaGreatDoorTi16
import Derived.Test.YtfbpjobobdidiaaGreatDoorRd16
import Derived.Test.YtfbpjobobdidiaaGreatDoorAh16
import Derived.Test.YtfbpjobobdidiaaGreatDoorGrpK
namespace Go.Proofs.YtfbpjobobdidiaaGreatDoor
open Go.RowKit Go.Maps
set_option linter.unusedVariables false
set_option maxRecDepth 100000
structure LE (w0 w : World) (p : Nat) (c : Nat → Nat) (F H : Nat) (E : Eng) : Prop where
  ep : ∃ X ks, EP w p c X F H ks E
  inv : Inv E
  new : ∀ g, c g ≠ 0 → w0.heap.size ≤ g
  only : Only none_ w0 w
section
variable {w0 w w' : World} {p : Nat} {c : Nat → Nat} {F H : Nat} {E : Eng}
theorem LE.still (h : LE w0 w p c F H E) (o : Only none_ w w') : LE w0 w' p c F H E := ⟨let ⟨X, ks, k⟩ := h.ep; ⟨X, ks, k.still o⟩, h.inv, h.new, h.only.same o⟩
theorem LE.lt (h : LE w0 w p c F H E) : ∀ g, c g ≠ 0 → g < w.heap.size := let ⟨X, ks, k⟩ := h.ep; k.eo.lt
theorem LE.hF (h : LE w0 w p c F H E) : F < 100000000 ∧ H < 1000000 := let ⟨X, ks, k⟩ := h.ep; ⟨k.hF, k.hH⟩
theorem LE.up (h : LE w0 w p c F H E) {F' H' : Nat} (k : F ≤ F') (k2 : H ≤ H') (b : F' < 100000000) (b2 : H' < 1000000) : LE w0 w p c F' H' E := { h with ep := let ⟨X, ks, q⟩ := h.ep; ⟨X, ks, q.up k k2 b b2⟩ }
theorem LE.keepN (h : LE w0 w p c F H E) {S : Nat → Prop} (o : Only S w w') (hn : ∀ g, S g → c g = 0 ∧ w0.heap.size ≤ g) : LE w0 w' p c F H E :=
  ⟨let ⟨X, ks, k⟩ := h.ep; ⟨X, ks, k.keep o (fun g hg s => hg (hn g s).1)⟩, h.inv, h.new, h.only.trans o (fun i hi s => absurd (hn i s).2 (Nat.not_le.2 hi))⟩
/-- behind a call -/
def LEto (w0 w : World) (p : Nat) (c : Nat → Nat) (F H : Nat) (E : Eng) (P : Nat → Prop) (w' : World) : Prop := ∃ c', LE w0 w' p c' F H E ∧ Gw w c c' ∧ (∀ g, P g → c' g = 0) ∧ Only (fun g => c g ≠ 0) w w'
theorem LE.callP (h : LE w0 w p c F H E) {F' H' : Nat} {E' : Eng} {P : Nat → Prop} (k : EGtoP w p c F' H' E' P w') (iv : Inv E') : LEto w0 w p c F' H' E' P w' := by
  obtain ⟨⟨c', X, ks, e, g, z⟩, o⟩ := k
  refine ⟨c', ⟨⟨X, ks, e⟩, iv, fun i hi => ?_, h.only.trans o (fun i hi s => absurd (h.new i s) (Nat.not_le.2 hi))⟩, g, z, o⟩
  rcases g i hi with q | q
  · exact h.new i q
  · exact Nat.le_trans h.only.size q
theorem LE.call (h : LE w0 w p c F H E) {F' H' : Nat} {E' : Eng} (k : EGto w p c F' H' E' w') (iv : Inv E') : LEto w0 w p c F' H' E' (fun _ => False) w' :=
  h.callP (let ⟨⟨c', X, ks, e, g⟩, o⟩ := k; ⟨⟨c', X, ks, e, g, fun _ q => q.elim⟩, o⟩) iv
theorem lread (b l : Int) (x : Wt) (h : LE w0 w p c F H E) (wx : wfW x) (hF : F + 10 < 100000000) (hH : H + 2 < 1000000) :
    Calls Tryz.prog 21 #[ptrTo p, .int .i64 b, .int .i64 l, x.val] w fun e w' => e = .returned (readA E b l x) ∧ LEto w0 w p c (F + 10) (H + 2) (E.read b l x) (fun _ => False) w' := by
  obtain ⟨X, ks, k⟩ := h.ep
  exact (eread_any b l x w k h.inv wx hF hH).mono (fun e w' z => ⟨z.1, h.call z.2 (h.inv.read b l x)⟩)
theorem lahead (b : Int) (h : LE w0 w p c F H E) (hF : F + 10 < 100000000) (hH : H + 2 < 1000000) :
    Calls Tryz.prog 31 #[ptrTo p, .int .i64 b] w fun e w' => e = .returned (aheadA E b) ∧ LEto w0 w p c (F + 10) (H + 2) (E.ahead b) (fun _ => False) w' := by
  obtain ⟨X, ks, k⟩ := h.ep
  exact (eahead_any b w k h.inv hF hH).mono (fun e w' z => ⟨z.1, h.call z.2 (h.inv.ahead b)⟩)
theorem lnext (room : Int) (h : LE w0 w p c F H E) (r9 : -9223372036854775808 ≤ room ∧ room ≤ 9223372036854775807) (hF : F + 1000 < 100000000) (hH : H + 1 < 1000000) :
    Calls Tryz.prog 19 #[ptrTo p, .int .i64 room] w fun e w' => ∃ mv dv v', e = .returned (.tuple #[mv, dv, .bool (E.next room).2.2.isSome]) ∧ OwnsInts w' w.heap.size dv (E.next room).2.1 ∧ NxV w' w.heap.size mv v' (E.next room).2.2 ∧ LEto w0 w p c (F + 1000) (H + 1) (E.next room).1 (MvB v') w' := by
  obtain ⟨X, ks, k⟩ := h.ep
  exact (enext_any room w k h.inv r9 hF hH).mono (fun e w' ⟨mv, dv, v', z1, z2, z3, z4⟩ => ⟨mv, dv, v', z1, z2, z3, h.callP z4 (h.inv.next room)⟩)
theorem lfinish (tag : Int) (well : Bool) (h : LE w0 w p c F H E) (wt : (Lit.int .i64 tag).wf = true) (hF : F + 300 < 100000000) :
    Calls Tryz.prog 24 #[ptrTo p, .int .i64 tag, .bool well] w fun e w' => ∃ v qs, e = .returned (.tuple #[v, .int .i64 (E.finishC tag)]) ∧ qs.map (·.1) = E.finishO tag well ∧ ∃ c', LE w0 w' p c' (F + 300) H (E.finish tag well) ∧ Gw w c c' ∧ OcAt w' w.heap.size c' v qs ∧ Only (fun g => c g ≠ 0) w w' := by
  obtain ⟨X, ks, k⟩ := h.ep
  refine (efinish_any tag well w k h.inv wt hF).mono ?_
  rintro e w' ⟨v, qs, z1, z2, ⟨c', X', ks', z3, z4, z5⟩, z6⟩
  refine ⟨v, qs, z1, z2, c', ⟨⟨X', ks', z3⟩, h.inv.finish tag well, fun i hi => ?_, h.only.trans z6 (fun i hi s => absurd (h.new i s) (Nat.not_le.2 hi))⟩, z4, z5, z6⟩
  rcases z4 i hi with q | q
  · exact h.new i q
  · exact Nat.le_trans h.only.size q
theorem ltickets (h : LE w0 w p c F H E) : Calls Tryz.prog 18 #[ptrTo p] w fun e w' => ∃ v, e = .returned v ∧ OwnsTk w' w.heap.size v E.tells ∧ Only none_ w w' := by
  obtain ⟨X, ks, k⟩ := h.ep
  exact etickets_any w k h.inv.ids
theorem lfree (h : LE w0 w p c F H E) : Calls Tryz.prog 17 #[ptrTo p] w fun e w' => e = .returned (.tuple #[.int .i64 E.fd, .int .i64 E.fa, .int .i64 E.fw]) ∧ Only none_ w w' := by
  obtain ⟨X, ks, k⟩ := h.ep
  exact efree_any w k
theorem lidle (b : Int) (h : LE w0 w p c F H E) : Calls Tryz.prog 30 #[ptrTo p, .int .i64 b] w fun e w' => e = .returned (.bool (E.idle b)) ∧ Only none_ w w' := by
  obtain ⟨X, ks, k⟩ := h.ep
  exact eidle_any b w k
theorem lnew (o : Opt) (hb : Bd w) (hm : o.MayC) (hO : Only none_ w0 w) : Calls Tryz.prog 11 #[o.val] w fun e w' => ∃ p, e = .returned (.tuple #[ptrTo p, .int .i64 0]) ∧ (∃ c, LE w0 w' p c 0 0 (E0 o) ∧ ∀ g, c g ≠ 0 → w.heap.size ≤ g) ∧ Only none_ w w' :=
  (enew_yes o w hb hm).mono (fun e w' ⟨p, z1, ⟨c, X, z2, z3⟩, z4⟩ => ⟨p, z1, ⟨c, ⟨⟨X, [], z2⟩, Inv.start hm, fun g hg => Nat.le_trans hO.size (z3 g hg), hO.same z4⟩, z3⟩, z4⟩)
end
/-! ### what the document fixes -/
def A0 : Eng := E0 (usual 10)
def A1 : Eng := A0.ahead 4
def A2 : Eng := A1.read 4 1 ⟨1, 0⟩
def A3 : Eng := A2.read 5 1 ⟨1, 1⟩
def A4 : Eng := (A3.next 8).1
def A5 : Eng := (A4.next 8).1
def A6 : Eng := A5.finish 1 false
def A7 : Eng := (A6.next 0).1
def A8 : Eng := A7.finish 2 true
theorem a_ahead : aheadA A0 4 = .tuple #[.agg #[.int .i64 1, .int .i64 3, .int .i64 4, .int .i64 0, .int .i64 0, .int .i64 0, .bool false, .bool false, .bool false], .int .i64 0] := by kernel_rfl
theorem a_read1 : readA A1 4 1 ⟨1, 0⟩ = .tuple #[.agg #[.int .i64 1, .int .i64 1, .int .i64 4, .int .i64 1, .int .i64 0, .int .i64 1, .bool false, .bool false, .bool false], .bool true, .bool true, .int .i64 0] := by kernel_rfl
theorem a_read2 : readA A2 5 1 ⟨1, 1⟩ = .tuple #[.agg #[.int .i64 2, .int .i64 1, .int .i64 5, .int .i64 1, .int .i64 0, .int .i64 1, .bool false, .bool false, .bool false], .bool false, .bool false, .int .i64 0] := by kernel_rfl
theorem a_next1 : (A3.next 8).2 = ([], some ⟨1, false, 4, 2, [1, 2], [], [4, 5]⟩) := by kernel_rfl
theorem a_next2 : (A4.next 8).2 = ([], none) := by kernel_rfl
theorem a_fin1 : A5.finishC 1 = 0 ∧ (A5.finishO 1 false).map (·.f) = [1, 1] := ⟨by kernel_rfl, by kernel_rfl⟩
theorem a_next3 : (A6.next 0).2 = ([], some ⟨2, false, 4, 2, [1, 2], [], []⟩) := by kernel_rfl
theorem a_fin2 : A7.finishC 2 = 0 ∧ (A7.finishO 2 true).map (fun o => (o.f, o.ws)) = [(0, [⟨1, 0⟩]), (0, [⟨1, 1⟩])] := ⟨by kernel_rfl, by kernel_rfl⟩
theorem a_over : A8.tells = [] := by kernel_rfl
end Go.Proofs.YtfbpjobobdidiaaGreatDoor
