/- What the last four laws of layer 16 share: options in memory, moves and tickets that were told, one step. -/
import Derived.Test.YtfbpjobobdidiaaGreatDoorRSu16
namespace Go.Proofs.YtfbpjobobdidiaaGreatDoor
open Lib (hid)
open Go.Proofs.Tryz
open Go.RowKit Go.Maps
set_option linter.unusedVariables false
set_option maxRecDepth 100000
def PostN (R:Go.Act→World→Prop):Exit→Go.Act→World→Prop
 | .normal,a,w=>R a w
 | _,_,_=>False
theorem wp_of_postN {P:Program} {s:Code} {R:Go.Act→World→Prop} {Q:Exit→Go.Act→World→Prop} {a:Go.Act} {w:World} (h:Code.wp P s (PostN R) a w) (hQ:∀a' w',R a' w'→Q .normal a' w'):Code.wp P s Q a w:=
 Code.wp_mono (λe a w h=>by cases e<;>first | exact hQ _ _ h | exact (h:False).elim) h
theorem Only.to_below17 {a b:World} (h:Only n_ a b):Below a.heap.size a b:=h.below (Nat.le_refl _) (λ_ _ s=>s)
theorem small16_any (o:Opt) (w:World):Calls prog 10 #[o.val] w λe w'=>e=.returned (.bool o.mayB)∧Only n_ w w':=by
 have M:=hid (λw=>ropt_may o w)
 unfold Opt.val at M ⊢
 go_enter func10,ntmps10
 go_wp2_with fail
 (with_reducible refine (M.out _).mono ?_)
 rintro e w1 ⟨rfl,o1⟩
 go_wp2_with fail
 go_ret
 exact⟨rfl,((Only.refl n_ w).alloc _).same o1⟩
theorem fourteen {w:World} {g:Nat} {t:TypeId} {o:Opt} (h:Row w g t o.cells):w.cell? ⟨g,0,none⟩=some (.int .i64 o.b0)∧w.cell? ⟨g,1,none⟩=some (.int .i64 o.b1)∧w.cell? ⟨g,2,none⟩=some (.int .i64 o.b2)∧w.cell? ⟨g,3,none⟩=some (.int .i64 o.b3)∧w.cell? ⟨g,4,none⟩=some (.int .i64 o.b4)∧w.cell? ⟨g,5,none⟩=some (.int .i64 o.b5)∧w.cell? ⟨g,6,none⟩=some (.int .i64 o.b6)∧w.cell? ⟨g,7,none⟩=some (.int .i64 o.b7)∧w.cell? ⟨g,8,none⟩=some (.int .i64 o.b8)∧w.cell? ⟨g,9,none⟩=some (.int .i64 o.b9)∧w.cell? ⟨g,10,none⟩=some (.int .i64 o.b10)∧w.cell? ⟨g,11,none⟩=some (.int .i64 o.b11)∧w.cell? ⟨g,12,none⟩=some (.int .i64 o.b12)∧w.cell? ⟨g,13,none⟩=some (.int .i64 o.b13):=
 ⟨h.cell 0,h.cell 1,h.cell 2,h.cell 3,h.cell 4,h.cell 5,h.cell 6,h.cell 7,h.cell 8,h.cell 9,h.cell 10,h.cell 11,h.cell 12,h.cell 13⟩
theorem act_more16 {w:World} {A:Option Addr} {xs:List ActF} (h:Holds w A 7 ActF.cells xs) {i:Nat} {a:ActF} (hi:xs[i]? = some a) :
  ∃b o,A=some ⟨b,o,none⟩∧b<w.heap.size∧∀w':World,Below w.heap.size w w'→w'.cell? ⟨b,o+i*7,none⟩=some (.int .i64 a.kind)∧w'.cell? ⟨b,o+i*7+1,none⟩=some (.int .i64 a.a)∧w'.cell? ⟨b,o+i*7+1+1,none⟩=some (.int .i64 a.b)∧w'.cell? ⟨b,o+i*7+1+1+1,none⟩=some (.int .u64 a.v)∧w'.cell? ⟨b,o+i*7+1+1+1+1,none⟩=some (.int .i64 a.w.r)∧w'.cell? ⟨b,o+i*7+1+1+1+1+1,none⟩=some (.int .i64 a.w.p)∧w'.cell? ⟨b,o+i*7+1+1+1+1+1+1,none⟩=some (.bool a.well):=by
 obtain⟨b,o,e,hlt,hc⟩:=act_at16 h (Below.refl _ _) hi
 refine⟨b,o,e,hlt,λw' hb=>?_⟩
 obtain⟨b',o',e',_,c⟩:=act_at16 h hb hi
 rw[e] at e'
 simp only[Option.some.injEq,Addr.mk.injEq,and_true] at e'
 obtain⟨rfl,rfl⟩:=e'
 exact c
theorem tks_at {w:World} {base n cap:Nat} {a:Option Addr} {qs:List (Tk × Int)} (h:OwnsTk w base (.slice a n cap) qs) {i:Nat} {q:Tk × Int} (hq:qs[i]? = some q) :
  ∃g,a=some ⟨g,0,none⟩∧∀w',Only n_ w w'→w'.cell? ⟨g,i*9,none⟩=some (.int .i64 q.1.id)∧w'.cell? ⟨g,i*9+1,none⟩=some (.int .i64 q.1.kind)∧w'.cell? ⟨g,i*9+2,none⟩=some (.int .i64 q.1.b)∧w'.cell? ⟨g,i*9+3,none⟩=some (.int .i64 q.1.l)∧w'.cell? ⟨g,i*9+4,none⟩=some (.int .i64 q.1.tries)∧w'.cell? ⟨g,i*9+5,none⟩=some (.int .i64 q.2)∧w'.cell? ⟨g,i*9+6,none⟩=some (.bool q.1.out)∧w'.cell? ⟨g,i*9+7,none⟩=some (.bool q.1.fr)∧w'.cell? ⟨g,i*9+8,none⟩=some (.bool q.1.cut):=by
 have ne:qs≠[]:=λe=>by rw[e] at hq;cases hq
 obtain⟨g,cap',e,_⟩:=Owns.form h ne
 simp only[Value.slice.injEq] at e
 obtain⟨rfl,rfl,rfl⟩:=e
 refine⟨g,rfl,λw' o=>?_⟩
 have cl:∀j,j<9→w'.cell? ⟨g,i*9+j,none⟩=(tkC q)[j]?:=λj hj=>Owns.cell (Owns.still h o) tkC9 hq hj
 exact⟨cl 0 (by decide),cl 1 (by decide),cl 2 (by decide),cl 3 (by decide),cl 4 (by decide),cl 5 (by decide),cl 6 (by decide),cl 7 (by decide),cl 8 (by decide)⟩
structure LO (w0 w:World) (p:Nat) (c:Nat→Nat) (F H:Nat) (E:Eng) (ob:Nat) (o:Opt):Prop where
 le:LEw w0 w p c F H E
 opt:E.o=o
 row:Row w ob 23 o.cells
 zero:c ob=0
theorem LO.still {w0 w w':World} {p ob:Nat} {c:Nat→Nat} {F H:Nat} {E:Eng} {o:Opt} (h:LO w0 w p c F H E ob o) (k:Only n_ w w'):LO w0 w' p c F H E ob o:=⟨h.le.still k,h.opt,k.still h.row,h.zero⟩
theorem LO.below {w0 w:World} {p ob:Nat} {c:Nat→Nat} {F H:Nat} {E:Eng} {o:Opt} (h:LO w0 w p c F H E ob o):Below w0.heap.size w0 w:=h.le.only.below (Nat.le_refl _) (λ_ _ s=>s)
theorem LO.up {w0 w:World} {p ob:Nat} {c:Nat→Nat} {F H F' H':Nat} {E:Eng} {o:Opt} (h:LO w0 w p c F H E ob o) (k:F≤F') (k2:H≤H') (b:F'<100000000) (b2:H'<1000000):LO w0 w p c F' H' E ob o:=⟨h.le.up k k2 b b2,h.opt,h.row,h.zero⟩
theorem LO.to {w0 w w':World} {p ob:Nat} {c c':Nat→Nat} {F H F' H':Nat} {E E':Eng} {o:Opt} (h:LO w0 w p c F H E ob o) (l:LEw w0 w' p c' F' H' E') (g:Gw w c c') (k:Only (λg=>c g≠0) w w') (e:E'.o=E.o):LO w0 w' p c' F' H' E' ob o:=⟨l,e.trans h.opt,k.row h.row (λs=>s h.zero),g.zero h.zero h.row.lt⟩
theorem lstep (o:Opt) (a:ActF) (wa:a.Wf) {w0 w:World} {p pr ob:Nat} {c:Nat→Nat} {F H:Nat} {E:Eng} (h:LO w0 w p c F H E ob o) (hr:Em w pr o) (hp:w0.heap.size≤pr) (hc:c pr=0) (hn:pr≠ob) (hm:o.MayC) (hF:F+1000<100000000) (hH:H+2<1000000) :
  Calls prog 12 #[.pointer (some ⟨p,0,none⟩),.pointer (some ⟨pr,0,none⟩),.agg #[.int .i64 a.kind,.int .i64 a.a,.int .i64 a.b,.int .u64 a.v,.int .i64 a.w.r,.int .i64 a.w.p,.bool a.well]] w λe w'=>(∃z,e=.returned (.bool z))∧∃c',LO w0 w' p c' (F+1000) (H+2) (E.act a) ob o∧Gw w c c'∧Only (λg=>c g≠0∨g=pr) w w':=by
 refine (step16_any o a wa w0 w p pr c F H E h.le hr hp hc hm hF hH).mono ?_
 rintro e w' ⟨z,c',l1,l2,l3⟩
 refine⟨z,c',⟨l1,(act_o E a).trans h.opt,l3.row h.row (λs=>?_),l2.zero h.zero h.row.lt⟩,l2,l3⟩
 rcases s with s | s
 ·exact s h.zero
 ·exact hn s.symm
end Go.Proofs.YtfbpjobobdidiaaGreatDoor
