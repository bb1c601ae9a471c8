/- Texts of the layers below, side by side. -/
import Derived.Test.YtfbpjobobdidiaaGreatDoorGrpN
import Derived.Test.YtfbpjobobdidiaaGreatDoorGrpL
/- An engine in memory: a new ticket comes. -/
namespace Go.Proofs.YtfbpjobobdidiaaGreatDoor
open Go.RowKit Go.Maps
set_option linter.unusedVariables false
set_option maxRecDepth 100000

section
variable {p : Nat} {c : Nat → Nat} {X : Loc} {F H : Nat} {ks : List Tk} {E : Eng}
def Loc.with (X : Loc) (x : Int) (g : Nat) : Loc := { X with A := setI X.A x g }
theorem ent_more (A : Int → Nat) (ts : List Tk) (t : Tk) (g : Nat) (h : ∀ s ∈ ts, s.id ≠ t.id) : ts.map (tkEnt A) ++ [(t.id, ptrTo g)] = (ts ++ [t]).map (tkEnt (setI A t.id g)) := by
  rw [List.map_append]
  congr 1
  · apply List.map_congr_left
    intro s hs
    unfold tkEnt setI
    rw [if_neg (h s hs)]
  · unfold tkEnt setI
    simp
theorem ent_same (A : Int → Nat) (ts : List Tk) (x : Int) (g : Nat) (h : ∀ s ∈ ts, s.id ≠ x) : ts.map (tkEnt (setI A x g)) = ts.map (tkEnt A) := by
  apply List.map_congr_left
  intro s hs
  unfold tkEnt setI
  rw [if_neg (h s hs)]
set_option maxHeartbeats 4000000 in
theorem eenter_any (kind b : Int) (w : World) (h : EP w p c X F H ks E) (hb : E.has b = true) (hq : putC E.o.b3.toNat E.o.b4.toNat E.qs (E.nt + 1) (kind == 3) = 0) (hl : E.ts.length < 128) (hl2 : (E.ts.length : Int) < E.o.b3 + E.o.b4) (hF : F + 1 < 100000000) (hH : H + 1 < 1000000) :
    Calls Tryz.prog 67 #[ptrTo p, .int .i64 kind, .int .i64 b] w fun e w' => ∃ g, e = .returned (ptrTo g) ∧ (∃ c', EP w' p c' (X.with (E.nt + 1) g) (F + 1) (H + 1) (ks ++ [E.new kind b]) (E.enter kind b) ∧ Gw w c c') ∧ w.heap.size ≤ g ∧ Only (fun g => c g ≠ 0 ∧ c g ≠ 6) w w' := by
  have lp := h.eo.row.lt
  have old : ∀ s ∈ ks, s.id ≠ (E.new kind b).id := fun s hs => by
    have := h.idr s hs
    show s.id ≠ (E.nt : Int) + 1
    omega
  have v1 : IntKind.i64.wrap ((E.nt : Int) + 1) = (E.nt : Int) + 1 := by have := h.ntH; have := h.hH; rw [IntKind.wrap_i64]; omega
  have wx : (Lit.int .i64 ((E.nt : Int) + 1)).wf = true := by have := h.ntH; have := h.hH; exact wf_i _ (by omega)
  have p19 : w.cell? ⟨p, 19, none⟩ = some (.int .i64 E.nt) := h.cell 19
  have f19 : w.frozen? ⟨p, 19, none⟩ = false := h.eo.row.frozen 19
  -- one number more
  obtain ⟨W1, hW1⟩ : ∃ W1, W1 = w.setCell ⟨p, 19, none⟩ (.int .i64 ((E.nt : Int) + 1)) := ⟨_, rfl⟩
  have o1 : Only (fun k => k = p) w W1 := by rw [hW1]; exact (Only.refl (fun k => k = p) w).into rfl _ _
  have r1 : Row W1 p 99 (engCells X E.o (E.nt + 1) E.ng) := by
    have := h.eo.row.put 19 (.int .i64 ((E.nt : Int) + 1))
    rw [← hW1] at this
    exact this
  have e1 := h.eo.own r1 o1
  -- the ticket
  obtain ⟨W2, hW2⟩ : ∃ W2, W2 = W1.alloc (.cells (E.new kind b).cells 123) := ⟨_, rfl⟩
  have e2 := e1.born (t := E.new kind b) old
  rw [← hW2] at e2
  have s1 : W1.heap.size = w.heap.size := by rw [hW1]; exact World.size_setCell _ _ _
  have o2 : Only none_ W1 W2 := by rw [hW2]; exact (Only.refl _ _).alloc _
  have od : Only none_ W2 W2.drew := (Only.refl _ _).drew
  have c1z : c p ≠ 0 ∧ c p ≠ 6 := by rw [h.eo.cp]; exact ⟨by decide, by decide⟩
  have O2 := Lib.hid (show Only (fun g => c g ≠ 0 ∧ c g ≠ 6) w W2.drew from ((o1.more (S' := fun g => c g ≠ 0 ∧ c g ≠ 6) (fun i _ e => by rw [e]; exact c1z)).idle o2).idle od)
  rw [s1] at e2
  -- in the map
  have hx : hasV (E.ts.map (tkEnt X.A)) ((E.nt : Int) + 1) = false := by
    cases q : hasV (E.ts.map (tkEnt X.A)) ((E.nt : Int) + 1) with
    | false => rfl
    | true =>
      obtain ⟨s, hs, e⟩ := hasV_iff.1 q
      obtain ⟨t, ht, rfl⟩ := List.mem_map.1 hs
      exact absurd e (old t (h.sub t ht))
  obtain ⟨w3, run3, m3, o3⟩ := (e2.still od).tm.store Tryz.underlying96 (by rw [List.length_map]; omega) ((E.nt : Int) + 1) (ptrTo w.heap.size) wx hx
  have e3 := (e2.still od).tmap m3 o3
  have TM := ent_more X.A E.ts (E.new kind b) w.heap.size (fun s hs => old s (h.sub s hs))
  rw [show E.ts.map (tkEnt X.A) ++ [((E.nt : Int) + 1, ptrTo w.heap.size)] = (E.ts ++ [E.new kind b]).map (tkEnt (setI X.A (E.new kind b).id w.heap.size)) from TM] at e3
  have O3 := Lib.hid (O2.out.same (o3.more (S' := fun g => c g ≠ 0 ∧ c g ≠ 6) (fun i _ e => by
    have : i = X.bt := e
    rw [this, h.eo.cb]; exact ⟨by decide, by decide⟩)))
  have E3 := Lib.hid e3
  have bd := h.bd
  have may := h.may
  unfold Opt.MayC at may
  have PU := lpush_any b ((E.nt : Int) + 1) w3.drew (e3.still ((Only.refl _ _).drew)).ln bd.1 bd.2 (by rw [List.length_map]; omega) wx
  have hb' : 0 ≤ b ∧ b < E.o.b0 := of_decide_eq_true hb
  have PC : pushC E.o.b0.toNat (E.o.b3 + E.o.b4).toNat (E.ts.map Tk.sd) b ((E.nt : Int) + 1) = 0 := by
    unfold pushC
    rw [if_pos ⟨hb'.1, by omega, by omega⟩, tk_has]
    have : hasK (E.ts.map Tk.sd) ((E.nt : Int) + 1) = false := by
      cases q : hasK (E.ts.map Tk.sd) ((E.nt : Int) + 1) with
      | false => rfl
      | true =>
        obtain ⟨s, hs, e⟩ := hasK_iff.1 q
        obtain ⟨t, ht, rfl⟩ := List.mem_map.1 hs
        exact absurd e (old t (h.sub t ht))
    rw [this, if_neg (by decide), List.length_map, if_neg (by omega)]
  have PS : pushS E.o.b0.toNat (E.o.b3 + E.o.b4).toNat (E.ts.map Tk.sd) b ((E.nt : Int) + 1) = (E.ts ++ [E.new kind b]).map Tk.sd := by
    unfold pushS
    rw [if_pos PC, List.map_append]
    rfl
  unfold lpushTo at PU
  rw [PS, PC] at PU
  have PU := Lib.hid PU
  have HQ := Lib.hid hq
  have WX := Lib.hid wx
  have HH := Lib.hid h
  have OLD := Lib.hid old
  have SZ := Lib.hid (show w.heap.size ≤ w3.drew.heap.size from O3.out.size)
  have GB := Lib.hid (show Gw w c (setN c w.heap.size 6) from fun g hg => by
    unfold setN at hg
    by_cases q : g = w.heap.size
    · exact .inr (by omega)
    · rw [if_neg q] at hg; exact .inl hg)
  have z17 : W2.drew.cell? ⟨p, 17, none⟩ = some (.map (some X.bt)) := (e2.still od).row.cell 17
  have zt := (e2.still od).tk (E.new kind b) (by simp)
  have zA : setI X.A (E.new kind b).id w.heap.size (E.new kind b).id = w.heap.size := if_pos rfl
  have z0 : W2.drew.cell? ⟨w.heap.size, 0, none⟩ = some (.int .i64 ((E.nt : Int) + 1)) := by
    have := zt.1.cell 0
    rw [show ({ X with A := setI X.A (E.new kind b).id w.heap.size } : Loc).A (E.new kind b).id = w.heap.size from zA] at this
    exact this
  have q19 : W1.cell? ⟨p, 19, none⟩ = some (.int .i64 ((E.nt : Int) + 1)) := r1.cell 19
  have y14 : w3.drew.cell? ⟨p, 14, none⟩ = some (.pointer (some ⟨X.pl, 0, none⟩)) := e3.row.cell 14
  have yt := e3.tk (E.new kind b) (by simp)
  have y0 : w3.drew.cell? ⟨w.heap.size, 0, none⟩ = some (.int .i64 ((E.nt : Int) + 1)) := by
    have := yt.1.cell 0
    rw [show ({ X with A := setI X.A (E.new kind b).id w.heap.size } : Loc).A (E.new kind b).id = w.heap.size from zA] at this
    exact this
  have HW2 : (w.setCell ⟨p, 19, none⟩ (.int .i64 ((E.nt : Int) + 1))).alloc (.cells #[.int .i64 ((E.nt : Int) + 1), .int .i64 kind, .int .i64 b, .int .i64 0, .int .i64 0, .int .i64 0, .bool false, .bool false, .bool false, .int .u64 0] 123) = W2 := by rw [hW2, hW1]; rfl
  clear zt yt zA hx e1 e2 e3 o1 o2 o3 od m3 PC PS bd may hb hq hb' wx TM r1 old h c1z
  unfold ptrTo at *
  go_enter Tryz.func67, Tryz.ntmps67
  go_upto_region 3 with fail
  first | rw [HW2] | rw [show (w.setCell ⟨p, 19, none⟩ (.int .i64 ((E.nt : Int) + 1))).alloc (.cells (E.new kind b).cells 123) = W2 from HW2]
  clear HW2 hW2 hW1 p19 f19 q19 v1
  go_region
  clear run3 z17 z0
  go_wp2_with fail
  go_region_with (first
    | (go_at_call 109; (with_reducible refine PU.out.mono ?_); rintro e w6 ⟨rfl, lt6⟩)
    | fail)
  all_goals
    obtain ⟨c6, e6, g6, o6⟩ := (E3.out.still ((Only.refl _ _).drew)).lanes lt6
    have E6 := Lib.hid e6
    have G6 := Lib.hid g6
    have HC := HH.out
    have cc : ∀ g, setN c w.heap.size 6 g = 2 → c g ≠ 0 ∧ c g ≠ 6 := fun g hg => by
      unfold setN at hg
      by_cases q : g = w.heap.size
      · rw [if_pos q] at hg; exact absurd hg (by decide)
      · rw [if_neg q] at hg; rw [hg]; exact ⟨by decide, by decide⟩
    have O6 := Lib.hid (O3.out.same (((Only.refl none_ w3).drew).then_ (o6.more (S' := fun g => c g ≠ 0 ∧ c g ≠ 6) (fun i _ e => cc i e))))
    have TE := tputF ((E.nt : Int) + 1) (kind == 3) (E6.out.still ((Only.refl _ _).drew)).tn WX.out (by omega)
    unfold putS at TE
    rw [HQ.out, if_pos rfl] at TE
    have TE := Lib.hid TE
    have y15 : w6.drew.cell? ⟨p, 15, none⟩ = some (.pointer (some ⟨X.pt, 0, none⟩)) := e6.row.cell 15
    have yt := e6.tk (E.new kind b) (by simp)
    have zA : setI X.A (E.new kind b).id w.heap.size (E.new kind b).id = w.heap.size := if_pos rfl
    have y1 : w6.drew.cell? ⟨w.heap.size, 0, none⟩ = some (.int .i64 ((E.nt : Int) + 1)) := by
      have := yt.1.cell 0
      rw [show ({ X with A := setI X.A (E.new kind b).id w.heap.size } : Loc).A (E.new kind b).id = w.heap.size from zA] at this
      exact this
    clear lt6 e6 g6 o6 y14 y0 E3 O3 yt zA HC cc
    go_wp2_with fail
    go_region_with (first
      | (go_at_call 110; (with_reducible refine TE.out.mono ?_); rintro e w7 ⟨rfl, t7, o7⟩)
      | fail)
    all_goals
      have e7 := ((E6.out.still ((Only.refl _ _).drew)).turns (Nat.le_succ F) t7 o7).up (Nat.le_refl _) (Nat.le_succ H)
      have o8 : Only (fun g => c g ≠ 0 ∧ c g ≠ 6) w w7 := O6.out.same (((Only.refl none_ w6).drew).then_ (o7.more (S' := fun g => c g ≠ 0 ∧ c g ≠ 6) (fun i _ e => by
        rcases e with e | e
        · rw [e, HH.out.eo.ct.1]; exact ⟨by decide, by decide⟩
        · rw [e, HH.out.eo.ct.2]; exact ⟨by decide, by decide⟩)))
      clear t7 o7
      go_wp2_with fail
      go_ret
      refine ⟨w.heap.size, rfl, ⟨c6, ?_, GB.out.trans G6.out SZ.out⟩, Nat.le_refl _, o8⟩
      have h := HH.out
      exact { eo := e7, sub := fun s hs => (by
                rcases List.mem_append.1 hs with q | q
                · exact List.mem_append_left _ (h.sub s q)
                · exact List.mem_append_right _ q),
              may := h.may,
              idr := fun t ht => (by
                show 1 ≤ t.id ∧ t.id ≤ ((E.nt + 1 : Nat) : Int)
                rcases List.mem_append.1 ht with q | q
                · have := h.idr t q; omega
                · rw [List.mem_singleton.1 q]; show 1 ≤ (E.nt : Int) + 1 ∧ (E.nt : Int) + 1 ≤ _; omega),
              tag := h.tag, few := (by show (E.ts ++ [E.new kind b]).length ≤ 128; rw [List.length_append, List.length_singleton]; omega), mfew := h.mfew,
              ntH := (by show E.nt + 1 ≤ H + 1; have := h.ntH; omega), ngH := (by have := h.ngH; show E.ng ≤ H + 1; omega), hF := hF, hH := hH }
end
end Go.Proofs.YtfbpjobobdidiaaGreatDoor


/- An engine in memory: a ticket's field is set; somebody waits; what an open engine allows. -/
namespace Go.Proofs.YtfbpjobobdidiaaGreatDoor
open Go.RowKit Go.Maps
set_option linter.unusedVariables false
set_option maxRecDepth 100000

theorem upd_sd {ts : List Tk} {x : Int} {f : Tk → Tk} (k : Keeps f) : (upd ts x f).map Tk.sd = ts.map Tk.sd := by
  unfold upd
  rw [List.map_map]
  apply List.map_congr_left
  intro t _
  show Tk.sd (if t.id = x then f t else t) = t.sd
  unfold Tk.sd
  rw [(keep_if k x t).1, (keep_if k x t).2]
theorem upd_ent {A : Int → Nat} {ts : List Tk} {x : Int} {f : Tk → Tk} (k : Keeps f) : (upd ts x f).map (tkEnt A) = ts.map (tkEnt A) := by
  unfold upd
  rw [List.map_map]
  apply List.map_congr_left
  intro t _
  show tkEnt A (if t.id = x then f t else t) = tkEnt A t
  unfold tkEnt
  rw [(keep_if k x t).1]
section
variable {w w' : World} {p : Nat} {c : Nat → Nat} {X : Loc} {F H : Nat} {ks : List Tk} {E : Eng}
/-- a ticket's row is another one -/
theorem EP.tick (h : EP w p c X F H ks E) {t : Tk} (ht : t ∈ ks) (f : Tk → Tk) (k : Keeps f) (r : Row w' (X.A t.id) 123 (f t).cells) (o : Only (fun k => k = X.A t.id) w w') : EP w' p c X F H (upd ks t.id f) (E.upd t.id f) where
  eo := by
    have := h.eo.tick ht f (fun s => (k s).1) r o
    rw [show ((E.upd t.id f).ts.map Tk.sd) = E.ts.map Tk.sd from upd_sd k, show ((E.upd t.id f).ts.map (tkEnt X.A)) = E.ts.map (tkEnt X.A) from upd_ent k]
    exact this
  sub := fun s hs => by
    obtain ⟨u, hu, rfl⟩ := upd_mem hs
    exact List.mem_map.2 ⟨u, h.sub u hu, rfl⟩
  may := h.may
  idr := fun s hs => by
    obtain ⟨u, hu, rfl⟩ := upd_mem hs
    rw [(keep_if k t.id u).1]
    exact h.idr u hu
  tag := h.tag
  few := by
    show (upd E.ts t.id f).length ≤ 128
    unfold Go.Proofs.YtfbpjobobdidiaaGreatDoor.upd
    rw [List.length_map]; exact h.few
  mfew := h.mfew
  ntH := h.ntH
  ngH := h.ngH
  hF := h.hF
  hH := h.hH
theorem EP.put (h : EP w p c X F H ks E) {t : Tk} (ht : t ∈ ks) (f : Tk → Tk) (k : Keeps f) (i : Nat) (v : Value) (e : (f t).cells = t.cells.setIfInBounds i v) : EP (w.setCell ⟨X.A t.id, i, none⟩ v) p c X F H (upd ks t.id f) (E.upd t.id f) :=
  h.tick ht f k (by rw [e]; exact (h.eo.tk t ht).1.put i v) ((Only.refl (fun k => k = X.A t.id) w).into rfl i v)
/-- the turns are others -/
theorem EP.turned (h : EP w p c X F H ks E) {qs : List Sl} (hF : F + 1 < 100000000) (t : TnF w' X E.o.b3.toNat E.o.b4.toNat (F + 1) qs) (o : Only (two12 X.pt X.bq) w w') : EP w' p c X (F + 1) H ks { E with qs := qs } :=
  { eo := h.eo.turns (Nat.le_succ F) t o, sub := h.sub, may := h.may, idr := h.idr, tag := h.tag, few := h.few, mfew := h.mfew, ntH := h.ntH, ngH := h.ngH, hF := hF, hH := h.hH }
/-- who waits are others -/
theorem EP.waiters (h : EP w p c X F H ks E) {g : List Sx} {H' : Nat} (hl : H ≤ H') (hH : H' < 1000000) (k : WGto w X.pg (fun g => c g = 4) E.o.b9.toNat H' g w') : ∃ c', EP w' p c' X F H' ks { E with g := g } ∧ Gw w c c' ∧ Only (fun g => c g = 4) w w' := by
  obtain ⟨c', e, gw, o⟩ := h.eo.reg hl k
  exact ⟨c', { eo := e, sub := h.sub, may := h.may, idr := h.idr, tag := h.tag, few := h.few, mfew := h.mfew, ntH := Nat.le_trans h.ntH hl, ngH := Nat.le_trans h.ngH hl, hF := h.hF, hH := hH }, gw, o⟩
theorem EP.waitersV (h : EP w p c X F H ks E) {g : List Sx} {H' : Nat} {v : Value} (hl : H ≤ H') (hH : H' < 1000000) (k : WGtoV w X.pg (fun g => c g = 4) E.o.b9.toNat H' g v w') (hv : ∀ b, v.ownBlock = some b → c b = 0) : ∃ c', EP w' p c' X F H' ks { E with g := g } ∧ Gw w c c' ∧ Only (fun g => c g = 4) w w' ∧ ∀ b, v.ownBlock = some b → c' b = 0 := by
  obtain ⟨c', e, gw, o, z⟩ := h.eo.regV hl k hv
  exact ⟨c', { eo := e, sub := h.sub, may := h.may, idr := h.idr, tag := h.tag, few := h.few, mfew := h.mfew, ntH := Nat.le_trans h.ntH hl, ngH := Nat.le_trans h.ngH hl, hF := h.hF, hH := hH }, gw, o, z⟩
theorem addS_ok {E : Eng} {t : Int} {x : Wt} (ht : 1 ≤ t) (m : mayP x) (n : waitsB E.g x = false) (l : (E.g.length : Int) < E.o.b9) : addS E.o.b9.toNat E.g t x = E.g ++ [⟨t, x⟩] := by
  have : addI E.o.b9.toNat E.g t x = 0 := by
    unfold addI
    unfold mayP at m
    rw [if_pos (show mayW t x from ⟨ht, m.1, m.2.1, by omega⟩), n, if_neg (by decide), if_neg (by omega)]
  unfold addS
  rw [if_pos this]
/-- there is room for a new ticket -/
theorem room16 {E : Eng} {ex rest : List Int} (h : InvX E ex rest) {kind : Int} (hf : if kind = 3 then E.fa ≠ 0 else E.fd ≠ 0) : putC E.o.b3.toNat E.o.b4.toNat E.qs (E.nt + 1) (kind == 3) = 0 ∧ E.ts.length < 128 ∧ (E.ts.length : Int) < E.o.b3 + E.o.b4 := by
  have hm := h.may
  unfold Opt.MayC at hm
  have h1 := h.fewd
  have h2 := h.fewa
  have e := two_len Sl.a E.qs
  have el : E.ts.length = E.qs.length := by
    have e1 : (E.ts.map (·.id)).length = E.ts.length := List.length_map _
    have e2 : (E.qs.map (·.k)).length = E.qs.length := List.length_map _
    rw [← e1, ← e2]
    refine same_len ?_ ?_ (fun x => ?_)
    · unfold List.Nodup
      rw [List.pairwise_map]
      exact h.ids.imp (fun {a b} q e => by omega)
    · unfold List.Nodup
      rw [List.pairwise_map]
      exact h.once
    · constructor
      · intro hx
        obtain ⟨t, ht, rfl⟩ := List.mem_map.1 hx
        exact List.mem_map.2 ⟨t.sl, h.qs2 t ht, rfl⟩
      · intro hx
        obtain ⟨s, hs, rfl⟩ := List.mem_map.1 hx
        obtain ⟨t, ht, rfl⟩ := h.qs1 s hs
        exact List.mem_map.2 ⟨t, ht, rfl⟩
  unfold Eng.fd Eng.fa at hf
  unfold rowL at *
  refine ⟨?_, ?_, ?_⟩
  · unfold putC
    rw [if_neg (by omega), h.no_q, if_neg (by decide), if_neg]
    unfold mostL rowL
    by_cases k : kind = 3
    · rw [if_pos k] at hf
      simp [k] at *
      omega
    · rw [if_neg k] at hf
      have kb : (kind == 3) = false := by simpa using k
      rw [kb]
      simp at *
      omega
  · by_cases k : kind = 3
    · rw [if_pos k] at hf
      simp at *
      omega
    · rw [if_neg k] at hf
      simp at *
      omega
  · by_cases k : kind = 3
    · rw [if_pos k] at hf
      simp at *
      omega
    · rw [if_neg k] at hf
      simp at *
      omega
end
end Go.Proofs.YtfbpjobobdidiaaGreatDoor


/- How an engine's worlds follow one another within a call; a call's answers. -/
namespace Go.Proofs.YtfbpjobobdidiaaGreatDoor
open Go.RowKit Go.Maps
set_option linter.unusedVariables false
set_option maxRecDepth 100000

theorem Gw.only {W1 wk w' : World} {c ck : Nat → Nat} {S : Nat → Prop} (o : Only (fun g => c g ≠ 0) W1 wk) (gw : Gw W1 c ck) (o2 : Only S wk w') (hS : ∀ g, S g → ck g ≠ 0) : Only (fun g => c g ≠ 0) W1 w' :=
  o.trans o2 (fun i hi s => by
    rcases gw i (hS i s) with q | q
    · exact q
    · omega)
theorem Gw.next {W1 wk : World} {c ck c' : Nat → Nat} (o : Only (fun g => c g ≠ 0) W1 wk) (gw : Gw W1 c ck) (g2 : Gw wk ck c') : Gw W1 c c' := gw.trans g2 o.size
theorem EP.zero {w : World} {p : Nat} {c : Nat → Nat} {X : Loc} {F H : Nat} {ks : List Tk} {E : Eng} (h : EP w p c X F H ks E) {g : Nat} (hg : w.heap.size ≤ g) : c g = 0 := Classical.byContradiction fun q => by have := h.eo.lt g q; omega
theorem Gw.less {w W1 : World} {c c' : Nat → Nat} (g : Gw W1 c c') (s : w.heap.size ≤ W1.heap.size) : Gw w c c' := fun i hi => by
  rcases g i hi with q | q
  · exact .inl q
  · exact .inr (by omega)
theorem Gw.zero {W1 : World} {c c' : Nat → Nat} (g : Gw W1 c c') {i : Nat} (z : c i = 0) (l : i < W1.heap.size) : c' i = 0 := Classical.byContradiction fun q => by
  rcases g i q with k | k
  · exact k z
  · omega
theorem optPtr_form (A : Int → Nat) (o : Option Tk) : ∃ a, optPtr A o = .pointer a := by
  cases o with
  | none => exact ⟨none, rfl⟩
  | some t => exact ⟨_, rfl⟩
theorem results_row1 {P : Program} {fn : Func} {p q : Tmp} {ty : TypeId} (h : fn.results = #[.cell p ty, .tmp q]) (tmps : Array Value) (w : World) (g : Nat) (t : TypeId) (cs : Array Value) (d : TypeDesc)
    (hp : tmps.getD p undef = .pointer (some ⟨g, 0, none⟩)) (hg : Row w g t cs) (hu : P.underlying ty = some d) (hd : (match d with | .struct _ | .array _ _ => true | _ => false) = true) (hi : (P.info? ty).map (·.size) = some cs.size) :
    (results fn tmps).run P w = .ok (.tuple #[.agg cs, tmps.getD q undef]) w := results_row_tmpO h tmps w g t cs (0, 0) d hp hg hu hd hi
theorem results_row2 {P : Program} {fn : Func} {p q r : Tmp} {ty : TypeId} (h : fn.results = #[.cell p ty, .tmp q, .tmp r]) (tmps : Array Value) (w : World) (g : Nat) (t : TypeId) (cs : Array Value) (d : TypeDesc)
    (hp : tmps.getD p undef = .pointer (some ⟨g, 0, none⟩)) (hg : Row w g t cs) (hu : P.underlying ty = some d) (hd : (match d with | .struct _ | .array _ _ => true | _ => false) = true) (hi : (P.info? ty).map (·.size) = some cs.size) :
    (results fn tmps).run P w = .ok (.tuple #[.agg cs, tmps.getD q undef, tmps.getD r undef]) w := by
  have hp' : tmps[p]?.getD undef = .pointer (some ⟨g, 0, none⟩) := by simpa using hp
  simp [results, h, hp', asAddr, run_loadVar_row w g t ty cs (0, 0) d hg hu hd hi]
theorem results_row3 {P : Program} {fn : Func} {p q r s : Tmp} {ty : TypeId} (h : fn.results = #[.cell p ty, .tmp q, .tmp r, .tmp s]) (tmps : Array Value) (w : World) (g : Nat) (t : TypeId) (cs : Array Value) (d : TypeDesc)
    (hp : tmps.getD p undef = .pointer (some ⟨g, 0, none⟩)) (hg : Row w g t cs) (hu : P.underlying ty = some d) (hd : (match d with | .struct _ | .array _ _ => true | _ => false) = true) (hi : (P.info? ty).map (·.size) = some cs.size) :
    (results fn tmps).run P w = .ok (.tuple #[.agg cs, tmps.getD q undef, tmps.getD r undef, tmps.getD s undef]) w := by
  have hp' : tmps[p]?.getD undef = .pointer (some ⟨g, 0, none⟩) := by simpa using hp
  simp [results, h, hp', asAddr, run_loadVar_row w g t ty cs (0, 0) d hg hu hd hi]
/-- a ticket as it is told, cell by cell -/
def Tk.toldC (t : Tk) (n : Int) : Array Value := #[.int .i64 t.id, .int .i64 t.kind, .int .i64 t.b, .int .i64 t.l, .int .i64 t.tries, .int .i64 n, .bool t.out, .bool t.fr, .bool t.cut]
theorem Row.tick9 {w : World} {g : Nat} {T : TypeId} {c0 c1 c2 c3 c4 c5 c6 c7 c8 : Value} (h : Row w g T #[c0, c1, c2, c3, c4, c5, c6, c7, c8]) (t : Tk) (n : Int) :
    Row (((((((((w.setCell ⟨g, 0, none⟩ (.int .i64 t.id)).setCell ⟨g, 1, none⟩ (.int .i64 t.kind)).setCell ⟨g, 2, none⟩ (.int .i64 t.b)).setCell ⟨g, 3, none⟩ (.int .i64 t.l)).setCell ⟨g, 4, none⟩ (.int .i64 t.tries)).setCell ⟨g, 5, none⟩ (.int .i64 n)).setCell ⟨g, 6, none⟩ (.bool t.out)).setCell ⟨g, 7, none⟩ (.bool t.fr)).setCell ⟨g, 8, none⟩ (.bool t.cut)) g T (t.toldC n) := h.put9 _ _ _ _ _ _ _ _ _
theorem Row.zero9 {w : World} {g : Nat} {T : TypeId} {c0 c1 c2 c3 c4 c5 c6 c7 c8 : Value} (h : Row w g T #[c0, c1, c2, c3, c4, c5, c6, c7, c8]) :
    Row (((((((((w.setCell ⟨g, 0, none⟩ (.int .i64 0)).setCell ⟨g, 1, none⟩ (.int .i64 0)).setCell ⟨g, 2, none⟩ (.int .i64 0)).setCell ⟨g, 3, none⟩ (.int .i64 0)).setCell ⟨g, 4, none⟩ (.int .i64 0)).setCell ⟨g, 5, none⟩ (.int .i64 0)).setCell ⟨g, 6, none⟩ (.bool false)).setCell ⟨g, 7, none⟩ (.bool false)).setCell ⟨g, 8, none⟩ (.bool false)) g T #[.int .i64 0, .int .i64 0, .int .i64 0, .int .i64 0, .int .i64 0, .int .i64 0, .bool false, .bool false, .bool false] := h.put9 _ _ _ _ _ _ _ _ _
theorem only9' {S : Nat → Prop} {a w : World} (o : Only S a w) {g : Nat} (hg : g < a.heap.size → S g) (d0 d1 d2 d3 d4 d5 d6 d7 d8 : Value) :
    Only S a (((((((((w.setCell ⟨g, 0, none⟩ d0).setCell ⟨g, 1, none⟩ d1).setCell ⟨g, 2, none⟩ d2).setCell ⟨g, 3, none⟩ d3).setCell ⟨g, 4, none⟩ d4).setCell ⟨g, 5, none⟩ d5).setCell ⟨g, 6, none⟩ d6).setCell ⟨g, 7, none⟩ d7).setCell ⟨g, 8, none⟩ d8) :=
  ((((((((o.put (p := ⟨g, 0, none⟩) hg d0).put (p := ⟨g, 1, none⟩) hg d1).put (p := ⟨g, 2, none⟩) hg d2).put (p := ⟨g, 3, none⟩) hg d3).put (p := ⟨g, 4, none⟩) hg d4).put (p := ⟨g, 5, none⟩) hg d5).put (p := ⟨g, 6, none⟩) hg d6).put (p := ⟨g, 7, none⟩) hg d7).put (p := ⟨g, 8, none⟩) hg d8
/-- an engine behind a call, wherever its parts lie -/
def EGto (w : World) (p : Nat) (c : Nat → Nat) (F H : Nat) (E : Eng) (w' : World) : Prop := (∃ c' X ks, EP w' p c' X F H ks E ∧ Gw w c c') ∧ Only (fun g => c g ≠ 0) w w'
theorem EGto.of {w w' : World} {p : Nat} {c c' : Nat → Nat} {X : Loc} {F H F' H' : Nat} {ks : List Tk} {E : Eng} (h : EP w' p c' X F H ks E) (g : Gw w c c') (o : Only (fun g => c g ≠ 0) w w') (k : F ≤ F') (k2 : H ≤ H') (b : F' < 100000000) (b2 : H' < 1000000) : EGto w p c F' H' E w' :=
  ⟨⟨c', X, ks, h.up k k2 b b2, g⟩, o⟩
/-- behind a call whose own two first blocks are new -/
theorem EGto.fin {w W1 wn w' : World} {p : Nat} {c c' : Nat → Nat} {X : Loc} {F H F' H' : Nat} {ks : List Tk} {E : Eng} (h : EP wn p c' X F H ks E) (o1 : Only none_ w W1) (g : Gw W1 c c') (o : Only (fun g => c g ≠ 0) W1 wn) {s : Nat} (hs : w.heap.size ≤ s) (hz : c' s = 0) (on : Only (fun g => g = s) wn w') (k : F ≤ F') (k2 : H ≤ H') (b : F' < 100000000) (b2 : H' < 1000000) : EGto w p c F' H' E w' := by
  refine EGto.of (h.keep on (fun i hi e => hi (by rw [e]; exact hz))) (g.less o1.size) ?_ k k2 b b2
  refine (o1.then_ o).trans on (fun i hi e => ?_)
  have : i = s := e
  omega
/-- .. and what it answered is none of the engine's -/
def EGtoV (w : World) (p : Nat) (c : Nat → Nat) (F H : Nat) (E : Eng) (v : Value) (w' : World) : Prop := (∃ c' X ks, EP w' p c' X F H ks E ∧ Gw w c c' ∧ ∀ g, v.ownBlock = some g → c' g = 0) ∧ Only (fun g => c g ≠ 0) w w'
theorem EGtoV.to {w w' : World} {p : Nat} {c : Nat → Nat} {F H : Nat} {E : Eng} {v : Value} (h : EGtoV w p c F H E v w') : EGto w p c F H E w' := let ⟨⟨c', X, ks, a, b, _⟩, o⟩ := h; ⟨⟨c', X, ks, a, b⟩, o⟩
theorem EGtoV.fin {w W1 wn w' : World} {p : Nat} {c c' : Nat → Nat} {X : Loc} {F H F' H' : Nat} {ks : List Tk} {E : Eng} {v : Value} (h : EP wn p c' X F H ks E) (o1 : Only none_ w W1) (g : Gw W1 c c') (o : Only (fun g => c g ≠ 0) W1 wn) {s : Nat} (hs : w.heap.size ≤ s) (hz : c' s = 0) (on : Only (fun g => g = s) wn w') (k : F ≤ F') (k2 : H ≤ H') (b : F' < 100000000) (b2 : H' < 1000000) (hv : ∀ g, v.ownBlock = some g → c' g = 0) : EGtoV w p c F' H' E v w' := by
  refine ⟨⟨c', X, ks, (h.keep on (fun i hi e => hi (by rw [e]; exact hz))).up k k2 b b2, g.less o1.size, hv⟩, ?_⟩
  refine (o1.then_ o).trans on (fun i hi e => ?_)
  have : i = s := e
  omega
end Go.Proofs.YtfbpjobobdidiaaGreatDoor

