/- Who waits for a ticket is taken: the code's own register. -/
import Derived.Test.YtgngaimbpnlkjaaOf14
namespace Go.Proofs.Ytgngaimbpnlkjaa
open Go.RowKit Go.Maps
set_option linter.unusedVariables false

/-- those who do not wait any more are gone -/
def goneE (es : List En) (ws : List Wt) : List En := es.filter (fun e => decide (e.s.w ∉ ws))
theorem gone_nil (es : List En) : goneE es [] = es := by unfold goneE; simp
theorem gone_more (es : List En) (ws : List Wt) (x : Wt) : goneE es (ws ++ [x]) = outE (goneE es ws) x := by
  unfold goneE outE
  rw [List.filter_filter]
  congr 1
  funext e
  simp [Bool.and_comm]
theorem gone_of {es : List En} (o : OnceE es) (t : Int) : seats (goneE es (ofL (seats es) t)) = leftT (seats es) t := by
  unfold leftT
  rw [← seats_filter es (fun s => decide (s.t ≠ t))]
  unfold goneE
  congr 1
  apply List.filter_congr
  intro e he
  rw [← ofE_seats]
  have : e.s.w ∈ (ofE es t).map (fun e => e.s.w) ↔ e.s.t = t := by
    constructor
    · intro k
      obtain ⟨f, hf, k2⟩ := List.mem_map.1 k
      obtain ⟨f1, f2⟩ := List.mem_filter.1 hf
      have := o.inj f1 he k2
      subst this
      simpa using f2
    · intro k
      exact List.mem_map.2 ⟨e, List.mem_filter.2 ⟨he, by simpa using k⟩, rfl⟩
  simp [this]
theorem gone_good {room came : Nat} {es : List En} (g : GoodR room (seats es)) (f : FineE came es) (ws : List Wt) : GoodR room (seats (goneE es ws)) ∧ FineE came (goneE es ws) := by
  have s : (seats (goneE es ws)).Sublist (seats es) := (List.filter_sublist).map _
  refine ⟨⟨g.low, g.high, Nat.le_trans s.length_le g.len, (s.map _).nodup g.once, fun x hx => g.may x (s.subset hx)⟩, f.sub List.filter_sublist⟩

set_option maxHeartbeats 2000000 in
theorem take14 {p b room came : Nat} {es : List En} (t : Int) (w : World) (h : WAt w p b room came es) :
    Calls Try.prog 14 #[.pointer (some ⟨p, 0, none⟩), .int .i64 t] w fun e w' => ∃ v', e = .returned v' ∧ RdW w' w.heap.size v' (ofL (seats es) t) ∧ (∃ es', WAt w' p b room came es' ∧ seats es' = leftT (seats es) t) ∧ Only (two14 p b) w w' := by
  have OF := Lib.hid (of21 t w h)
  have H := Lib.hid h
  go_enter Try.func14, Try.ntmps14
  go_wp2_with fail
  (with_reducible refine OF.out.mono ?_)
  rintro e w1 ⟨v, rfl, hv, o⟩
  have O1 := Lib.hid o
  have RV := Lib.hid hv
  obtain ⟨⟨a, cap, rfl, rd⟩, _⟩ := hv
  clear OF
  have W0 := Lib.hid (h.wf)
  obtain ⟨ws, hws⟩ : ∃ ws, ofL (seats es) t = ws := ⟨_, rfl⟩
  have WS := Lib.hid hws
  have WF := Lib.hid (show ∀ x ∈ ws, wfW x from fun x hx => by
    rw [← hws, ← ofs_seats] at hx
    obtain ⟨e, he, rfl⟩ := List.mem_map.1 hx
    exact W0.out e (List.mem_filter.1 he).1)
  rw [hws] at RV rd ⊢
  have lw : ws.length ≤ 64 := by
    have h1 := of_le (seats es) t
    have h2 := H.out.len
    rw [seats_len] at h1
    rw [← hws]
    omega
  have H1 := Lib.hid (h.still o)
  have BG := Lib.hid (show ∀ g o', a = some ⟨g, o', none⟩ → g ≠ b ∧ g ≠ p from fun g o' e => by
    have := (RV.out.late g (by rw [e]; rfl)).1
    have := H.out.row.lt
    have := H.out.md.lt
    omega)
  have RD := Lib.hid rd
  clear hws h o rd
  go_wp2_with fail
  go_loopw [13] (fun i wr => ∃ (k : Nat), k ≤ ws.length ∧ i = .int .i64 k ∧ Md wr b (goneE es (ws.take k)) ∧ Only (fun j => j = b) w1 wr) (fun i _ => ws.length - (intOf i).toNat)
  case atStart => exact ⟨0, Nat.zero_le _, rfl, by rw [List.take_zero, gone_nil]; exact H1.out.md, Only.refl _ _⟩
  case round =>
    obtain ⟨k, hk, rfl, hm, ho⟩ := hrel
    have MD := Lib.hid hm
    have OB := Lib.hid ho
    clear hm ho
    by_cases hlt : k < ws.length
    · obtain ⟨x, hx⟩ : ∃ x, ws[k]? = some x := ⟨_, List.getElem?_eq_getElem hlt⟩
      obtain ⟨g, o1, rfl, cy0, cy1⟩ := RD.out k x hx
      have gb := BG.out g o1 rfl
      have c0 : wr.cell? ⟨g, o1 + k * 2, none⟩ = some (.int .i64 x.r) := OB.out.cell cy0 gb.1
      have c1 : wr.cell? ⟨g, o1 + k * 2 + 1, none⟩ = some (.int .i64 x.p) := OB.out.cell cy1 gb.1
      have TM := Lib.hid (sxtake hx)
      have wx := WF.out x (List.mem_of_getElem? hx)
      have o2 := ((Only.refl none_ wr).alloc (.cells #[.int .i64 x.r, .int .i64 x.p] 31)).drew
      have R5 := o2.row (OB.out.row H1.out.row H.out.ne) (fun s => s)
      have d1 : ((wr.alloc (.cells #[.int .i64 x.r, .int .i64 x.p] 31)).drew).cell? ⟨p, 1, none⟩ = some (.map (some b)) := by rw [R5.cell]; rfl
      have XR : Row ((wr.alloc (.cells #[.int .i64 x.r, .int .i64 x.p] 31)).drew) wr.heap.size 31 #[.int .i64 x.r, .int .i64 x.p] := Row.fresh wr _ _
      obtain ⟨x0, x1⟩ := XR.two
      obtain ⟨w6, run6, m6, o6, _⟩ := (MD.out.still o2).drop (H.out.once.sub List.filter_sublist) x wx 0
      have M6 := Lib.hid (show Md w6 b (goneE es (ws.take (k + 1))) from by rw [TM.out, gone_more]; exact m6)
      have O6 := Lib.hid (OB.out.same (o2.then_ o6))
      clear hx cy0 cy1 gb wx o2 R5 XR m6 o6
      go_wp2_with fail
      go_region
      all_goals
        go_wp2_with fail
        go_roundw
        case rel => exact ⟨k + 1, by omega, by go_num, M6.out, O6.out⟩
        case measure => simp [intOf]; omega
    · have hge : ws.length ≤ k := by omega
      have TK := Lib.hid (List.take_of_length_le hge)
      rw [TK.out] at MD
      clear hge
      go_wp2_with fail
      go_ret
      have gg := gone_good H.out.good H.out.fine ws
      refine ⟨.slice a ws.length cap, rfl, ⟨⟨a, cap, by rw [WS.out], fun i x hx => ?_⟩, fun g hg => ?_⟩, ⟨goneE es ws, ⟨OB.out.row H1.out.row H.out.ne, MD.out, gg.2, gg.1⟩, by rw [← WS.out]; exact gone_of H.out.once t⟩, O1.out.then_ (OB.out.more (fun i _ e => .inr e))⟩
      · rw [WS.out] at hx
        obtain ⟨g, o', e, c0, c1⟩ := RD.out i x hx
        have gb := BG.out g o' e
        exact ⟨g, o', e, OB.out.cell c0 gb.1, OB.out.cell c1 gb.1⟩
      · have := RV.out.late g hg
        exact ⟨this.1, Nat.lt_of_lt_of_le this.2 OB.out.size⟩
end Go.Proofs.Ytgngaimbpnlkjaa
