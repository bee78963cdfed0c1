/- takes, the rest. -/
import Derived.Test.YtfkejdocklcpoaaDoorVfTcJs
import Derived.Test.YtfkejdocklcpoaaDoorVfTk
namespace Go.Proofs.YtfkejdocklcpoaaDoor
set_option maxRecDepth 100000
set_option maxHeartbeats 1000000
open Go.RowKit
abbrev oTd0 : Oper := { dst := some 10, op := .move (.tmp 0), type := 61, pos := "table.go:45", after := #[], guard := none }
abbrev oTd1 : Oper := { dst := some 11, op := .nilCheck (.tmp 10), type := 0, pos := "table.go:45", after := #[{ on := 0, ground := .data }], guard := none }
abbrev oTd2 : Oper := { dst := some 12, op := .fieldAddr 68 (.tmp 11) 2, type := 0, pos := "table.go:45", after := #[{ on := 1, ground := .data }], guard := none }
abbrev oTd3 : Oper := { dst := some 13, op := .fieldAddr 48 (.tmp 12) 1, type := 0, pos := "table.go:45", after := #[{ on := 2, ground := .data }], guard := none }
abbrev oTd4 : Oper := { dst := some 14, op := .load 44 (.tmp 13), type := 44, pos := "table.go:45", after := #[{ on := 3, ground := .data }], guard := none }
abbrev oTd5 : Oper := { dst := some 15, op := .fieldAddr 50 (.tmp 3) 1, type := 0, pos := "table.go:45", after := #[], guard := none }
abbrev oTd6 : Oper := { dst := some 16, op := .load 3 (.tmp 15), type := 3, pos := "table.go:45", after := #[{ on := 5, ground := .data }], guard := none }
abbrev oTd7 : Oper := { dst := some 17, op := .indexAddr 44 (.tmp 14) (.tmp 16), type := 0, pos := "table.go:45", after := #[{ on := 4, ground := .data }, { on := 6, ground := .data }], guard := none }
abbrev oTd8 : Oper := { dst := some 18, op := .load 3 (.tmp 17), type := 3, pos := "table.go:45", after := #[{ on := 7, ground := .data }], guard := none }
abbrev oTd9 : Oper := { dst := some 19, op := .buildSlice 44 1 #[(0, .tmp 18)], type := 44, pos := "table.go:45", after := #[{ on := 8, ground := .data }], guard := none }
abbrev oTd10 : Oper := { dst := some 20, op := .call { callee := .value (.func 78), args := #[.tmp 19], argTypes := #[44] }, type := 116, pos := "table.go:45", after := #[{ on := 9, ground := .data }], guard := none }
abbrev oTd11 : Oper := { dst := some 21, op := .extract (.tmp 20) 0, type := 3, pos := "table.go:45", after := #[{ on := 10, ground := .data }], guard := none }
abbrev oTd12 : Oper := { dst := some 22, op := .extract (.tmp 20) 1, type := 115, pos := "table.go:45", after := #[{ on := 10, ground := .data }], guard := none }
abbrev oTd13 : Oper := { dst := some 4, op := .assign (.tmp 21), type := 3, pos := "table.go:45", after := #[{ on := 11, ground := .data }, { on := 10, ground := .chain }, { on := 0, ground := .phase }, { on := 1, ground := .phase }, { on := 2, ground := .phase }, { on := 3, ground := .phase }, { on := 4, ground := .phase }, { on := 5, ground := .phase }, { on := 6, ground := .phase }, { on := 7, ground := .phase }, { on := 8, ground := .phase }, { on := 9, ground := .phase }, { on := 10, ground := .phase }, { on := 11, ground := .phase }, { on := 12, ground := .phase }], guard := none }
abbrev oTd14 : Oper := { dst := some 5, op := .assign (.tmp 22), type := 115, pos := "table.go:45", after := #[{ on := 12, ground := .data }, { on := 13, ground := .chain }, { on := 0, ground := .phase }, { on := 1, ground := .phase }, { on := 2, ground := .phase }, { on := 3, ground := .phase }, { on := 4, ground := .phase }, { on := 5, ground := .phase }, { on := 6, ground := .phase }, { on := 7, ground := .phase }, { on := 8, ground := .phase }, { on := 9, ground := .phase }, { on := 10, ground := .phase }, { on := 11, ground := .phase }, { on := 12, ground := .phase }, { on := 13, ground := .phase }], guard := none }
abbrev oTd15 : Oper := { dst := some 96, op := .move (.tmp 0), type := 61, pos := "table.go:67", after := #[], guard := none }
abbrev oTd16 : Oper := { dst := some 97, op := .nilCheck (.tmp 96), type := 0, pos := "table.go:67", after := #[{ on := 0, ground := .data }], guard := none }
abbrev oTd17 : Oper := { dst := some 98, op := .fieldAddr 68 (.tmp 97) 1, type := 0, pos := "table.go:67", after := #[{ on := 1, ground := .data }], guard := none }
abbrev oTd18 : Oper := { dst := some 99, op := .fieldAddr 27 (.tmp 98) 1, type := 0, pos := "table.go:67", after := #[{ on := 2, ground := .data }], guard := none }
abbrev oTd19 : Oper := { dst := some 100, op := .load 23 (.tmp 99), type := 23, pos := "table.go:67", after := #[{ on := 3, ground := .data }], guard := none }
abbrev oTd20 : Oper := { dst := some 101, op := .fieldAddr 50 (.tmp 3) 1, type := 0, pos := "table.go:67", after := #[], guard := none }
abbrev oTd21 : Oper := { dst := some 102, op := .load 3 (.tmp 101), type := 3, pos := "table.go:67", after := #[{ on := 5, ground := .data }], guard := none }
abbrev oTd22 : Oper := { dst := some 103, op := .indexAddr 23 (.tmp 100) (.tmp 102), type := 0, pos := "table.go:67", after := #[{ on := 4, ground := .data }, { on := 6, ground := .data }], guard := none }
abbrev oTd23 : Oper := { dst := some 104, op := .load 48 (.tmp 103), type := 48, pos := "table.go:67", after := #[{ on := 7, ground := .data }], guard := none }
abbrev oTd24 : Oper := { dst := some 105, op := .call { callee := .value (.func 65), args := #[.tmp 104], argTypes := #[48] }, type := 44, pos := "table.go:67", after := #[{ on := 8, ground := .data }], guard := none }
abbrev oTd25 : Oper := { dst := some 106, op := .call { callee := .value (.func 78), args := #[.tmp 105], argTypes := #[44] }, type := 116, pos := "table.go:67", after := #[{ on := 9, ground := .data }, { on := 9, ground := .chain }], guard := none }
abbrev oTd26 : Oper := { dst := some 107, op := .extract (.tmp 106) 0, type := 3, pos := "table.go:67", after := #[{ on := 10, ground := .data }], guard := none }
abbrev oTd27 : Oper := { dst := some 108, op := .extract (.tmp 106) 1, type := 115, pos := "table.go:67", after := #[{ on := 10, ground := .data }], guard := none }
abbrev oTd28 : Oper := { dst := some 4, op := .assign (.tmp 107), type := 3, pos := "table.go:67", after := #[{ on := 11, ground := .data }, { on := 10, ground := .chain }, { on := 0, ground := .phase }, { on := 1, ground := .phase }, { on := 2, ground := .phase }, { on := 3, ground := .phase }, { on := 4, ground := .phase }, { on := 5, ground := .phase }, { on := 6, ground := .phase }, { on := 7, ground := .phase }, { on := 8, ground := .phase }, { on := 9, ground := .phase }, { on := 10, ground := .phase }, { on := 11, ground := .phase }, { on := 12, ground := .phase }], guard := none }
abbrev oTd29 : Oper := { dst := some 5, op := .assign (.tmp 108), type := 115, pos := "table.go:67", after := #[{ on := 12, ground := .data }, { on := 13, ground := .chain }, { on := 0, ground := .phase }, { on := 1, ground := .phase }, { on := 2, ground := .phase }, { on := 3, ground := .phase }, { on := 4, ground := .phase }, { on := 5, ground := .phase }, { on := 6, ground := .phase }, { on := 7, ground := .phase }, { on := 8, ground := .phase }, { on := 9, ground := .phase }, { on := 10, ground := .phase }, { on := 11, ground := .phase }, { on := 12, ground := .phase }, { on := 13, ground := .phase }], guard := none }
section
variable {B A:Nat} {w w' : World} {p:Pg} {f:Fd} {V:Fv} {fi at_ mo:Int}
theorem tks_drew {n:Nat} {mu:Must} {W:World} {e:Ending} (h:TksO n mu w e W):TksO n mu w e W.drew:=by
 obtain ⟨f,caps,h1,h2,h3⟩:=h
 refine ⟨f,caps,h1,fun m ks hl hk=>?_,below_drew h3⟩
 obtain ⟨Z,U,z1,z2,z3⟩:=h2 m ks hl hk
 exact ⟨Z,U,z1,z2,z2.st 0 W W.drew z3 (fun _ _=>rfl)⟩
theorem tk_24 (F:FlAt B w A p f V fi at_ mo) (i:In3) (hn:p.ty.length≤1024) (ho:i.o=24) (hk:∀ k∈f.re,isKB p.ty.length k=true) (hl:f.re.length≤4096):Calls Tryd.prog 70 #[.pointer (some ⟨A,0,none⟩),.agg #[.int .i64 i.o,.int .i64 i.a,.int .i64 i.b]] w (TksO p.ty.length (.fit f.re) w):=by
 obtain ⟨ra,rc,hr⟩:=sl_form F.re
 obtain ⟨W1,hW1,b1,hI⟩:=bxi w i
 have F1:=F.below b1
 have HB:=hide b1
 have HF1:=hide F1
 have i0:W1.cell? ⟨w.heap.size,0,none⟩=some (.int .i64 i.o):=cell_of hI rfl
 have i1:W1.cell? ⟨w.heap.size,1,none⟩=some (.int .i64 i.a):=cell_of hI rfl
 have hlA:=lt_of_block F.box
 have hlI:=lt_of_block hI
 have HN:=hide hn
 clear b1 F1 hI F hn
 have c8:W1.cell? ⟨A,8,none⟩=some V.u2:=cell_of HF1.out.box rfl
 rw [hr] at c8
 have HI:=hide (is_of_sl (X:=fun _=>False) (hr ▸ HF1.out.re) HF1.out.hB (fun _ _ h=>h))
 have HK:=hide hk
 have HL:=hide hl
 have HT:=hide (fun T=>tks_fit (T:=T) HN.out HB.out HK.out (by have:=HL.out;omega) HI.out)
 clear hr hk hl HI HK HL HN
 generalize f.re.length=rl at *
 rw [ho] at i0 hW1 ⊢
 clear ho
 go_enter Tryd.func70,Tryd.ntmps70
 go_wp2_with fail
 refine (fitting_any _ _ _ _).mono ?_
 rintro e w3 ⟨rfl,rfl⟩
 go_wp2
 go_ret2
 exact HT.out _
theorem tk_4 (F:FlAt B w A p f V fi at_ mo) (i:In3) (hn:p.ty.length≤1024) (ho:i.o=4) {k:Nat} {o:Int} (ha:i.a=(k:Int)) (hx:f.lo[k]?=some o) (hko:isKB p.ty.length o=true):Calls Tryd.prog 70 #[.pointer (some ⟨A,0,none⟩),.agg #[.int .i64 i.o,.int .i64 i.a,.int .i64 i.b]] w (TksO p.ty.length (.fit [o]) w):=by
 obtain ⟨ra,rc,hr⟩:=sl_form F.lo
 obtain ⟨W1,hW1,b1,hI⟩:=bxi w i
 have F1:=F.below b1
 have HB:=hide b1
 have HF1:=hide F1
 have i0:W1.cell? ⟨w.heap.size,0,none⟩=some (.int .i64 i.o):=cell_of hI rfl
 have i1:W1.cell? ⟨w.heap.size,1,none⟩=some (.int .i64 i.a):=cell_of hI rfl
 have hlA:=lt_of_block F.box
 have hlI:=lt_of_block hI
 have HN:=hide hn
 clear b1 F1 hI F hn
 have c7:W1.cell? ⟨A,7,none⟩=some V.u1:=cell_of HF1.out.box rfl
 obtain ⟨ao,cap,hao,_,hel⟩:=HF1.out.lo
 rw [hao] at c7
 obtain ⟨g,q,rfl,hg,hc,_⟩:=ints_at hel hx
 have hgw:g<W1.heap.size:=Nat.lt_of_lt_of_le hg HF1.out.hB
 have hlt:k<f.lo.length:=get_lt hx
 have e1:decide (k<f.lo.length)=true:=by simpa using hlt
 have HT:=hide (fun (W:World) (h:Below w.heap.size w W) T1 T2=>tks_lit (os:=[o]) (T1:=T1) (T2:=T2) HN.out h (by intro x hx;simp at hx;subst hx;exact hko) (by simp) rfl)
 rw [ha] at i1 hW1 ⊢
 have HCL:=hide (show ∀ W:World,Below W1.heap.size W1 W→W.cell? ⟨A,7,none⟩=some (.slice (some ⟨g,q,none⟩) f.lo.length cap)∧W.cell? ⟨w.heap.size,1,none⟩=some (.int .i64 k)∧W.cell? ⟨g,q+k,none⟩=some (.int .i64 o) from fun W h=>⟨(h.cell (p:=⟨A,7,none⟩) (World.block_lt_of_cell? W1 _ c7)).trans c7,(h.cell (p:=⟨w.heap.size,1,none⟩) (World.block_lt_of_cell? W1 _ i1)).trans i1,(h.cell (p:=⟨g,q+k,none⟩) (World.block_lt_of_cell? W1 _ hc)).trans hc⟩)
 clear hr hao hel hx hko ha HN
 generalize f.lo.length=ll at *
 rw [ho] at i0 hW1 ⊢
 clear ho
 go_enter Tryd.func70,Tryd.ntmps70
 go_wp2_with fail
 refine wp_region_held_drew (S:=(fun W=>W.cell? ⟨A,7,none⟩=some (.slice (some ⟨g,q,none⟩) ll cap)∧W.cell? ⟨w.heap.size,1,none⟩=some (.int .i64 k)∧W.cell? ⟨g,q+k,none⟩=some (.int .i64 o))) (by kernel_rfl) ⟨c7,i1,hc⟩ (fun hHeld1=>?_)
 refine tk 0 oTd0 ?v2 ?h2 ?_
 case h2=>(intro W h;(try dsimp only at h);go_simp;try with_reducible rfl)
 try simp only [sp]
 refine tk 1 oTd1 ?v3 ?h3 ?_
 case h3=>(intro W h;(try dsimp only at h);go_simp;try with_reducible rfl)
 try simp only [sp]
 refine tk 2 oTd2 ?v4 ?h4 ?_
 case h4=>(intro W h;(try dsimp only at h);go_simp;try with_reducible rfl)
 try simp only [sp]
 refine tk 3 oTd3 ?v5 ?h5 ?_
 case h5=>(intro W h;(try dsimp only at h);go_simp;try with_reducible rfl)
 try simp only [sp]
 refine tk 4 oTd4 ?v6 ?h6 ?_
 case h6=>(intro W h;(try dsimp only at h);go_simp;try with_reducible rfl)
 try simp only [sp]
 refine tk 5 oTd5 ?v7 ?h7 ?_
 case h7=>(intro W h;(try dsimp only at h);go_simp;try with_reducible rfl)
 try simp only [sp]
 refine tk 6 oTd6 ?v8 ?h8 ?_
 case h8=>(intro W h;(try dsimp only at h);go_simp;try with_reducible rfl)
 try simp only [sp]
 refine tk 7 oTd7 ?v9 ?h9 ?_
 case h9=>(intro W h;(try dsimp only at h);go_simp;try with_reducible rfl)
 try simp only [sp]
 refine tk 8 oTd8 ?v10 ?h10 ?_
 case h10=>(intro W h;(try dsimp only at h);go_simp;try with_reducible rfl)
 try simp only [sp]
 refine wpAnyH_ready (rs:=[9]) (by kernel_rfl) (by simp) ?_
 refine AllReadyH.cons (o:=oTd9) rfl (fun K hK=>?_) AllReadyH.nil
 go_simp
 go_wp2_with fail
 refine hK.out _ _ (HCL.out _ (below_drew ((Below.refl _ _).alloc (Nat.le_refl _) _))) (fun hHeld11=>?_)
 clear hK K
 try simp only [sp]
 refine wpAnyH_ready (rs:=[10]) (by kernel_rfl) (by simp) ?_
 refine AllReadyH.cons (o:=oTd10) rfl (fun K hK=>?_) AllReadyH.nil
 go_simp
 go_at_call 78
 refine (fitting_any _ _ _ _).mono ?_
 rintro e w3 ⟨rfl,rfl⟩
 go_wp2_with fail
 refine hK.out _ _ (HCL.out _ (below_drew (((Below.refl _ _).alloc (Nat.le_refl _) _).alloc (by simp) _))) (fun hHeld12=>?_)
 clear hK K
 try simp only [sp]
 refine tk 11 oTd11 ?v13 ?h13 ?_
 case h13=>(intro W h;(try dsimp only at h);go_simp;try with_reducible rfl)
 try simp only [sp]
 refine tk 12 oTd12 ?v14 ?h14 ?_
 case h14=>(intro W h;(try dsimp only at h);go_simp;try with_reducible rfl)
 try simp only [sp]
 refine tk 13 oTd13 ?v15 ?h15 ?_
 case h15=>(intro W h;(try dsimp only at h);go_simp;try with_reducible rfl)
 try simp only [sp]
 refine tk 14 oTd14 ?v16 ?h16 ?_
 case h16=>(intro W h;(try dsimp only at h);go_simp;try with_reducible rfl)
 try simp only [sp]
 refine wpAnyH_done (by kernel_rfl) ?_ _
 go_wp2
 go_ret2
 exact tks_drew (HT.out W1 HB.out 3 44)
theorem tk_22 (F:FlAt B w A p f V fi at_ mo) (i:In3) (hn:p.ty.length≤1024) (ho:i.o=22) {m:Nat} {g:Fd} (ha:i.a=(m:Int)) (hx:p.fu[m]?=some g) (hp:0≤g.pa∧g.pa≤(g.lo.length:Int)) (hk:∀ k∈parK g,isKB p.ty.length k=true) (hl:g.lo.length≤4096):Calls Tryd.prog 70 #[.pointer (some ⟨A,0,none⟩),.agg #[.int .i64 i.o,.int .i64 i.a,.int .i64 i.b]] w (TksO p.ty.length (.fit (parK g)) w):=by
 obtain ⟨W1,hW1,b1,hI⟩:=bxi w i
 have F1:=F.below b1
 have HB:=hide b1
 have HF1:=hide F1
 have i0:W1.cell? ⟨w.heap.size,0,none⟩=some (.int .i64 i.o):=cell_of hI rfl
 have i1:W1.cell? ⟨w.heap.size,1,none⟩=some (.int .i64 i.a):=cell_of hI rfl
 have hlA:=lt_of_block F.box
 have hlI:=lt_of_block hI
 have HN:=hide hn
 clear b1 F1 hI F hn
 have c3:W1.cell? ⟨A,3,none⟩=some V.v2:=cell_of HF1.out.box rfl
 obtain ⟨gg,oo,c,n,v1,v2,v3,v4,hv,hnn,hlt,hg,⟨y0,y1,y2,y3,y4⟩,r1,r2,r3,r4⟩:=fd_at HF1.out.pg.fu hx
 rw [hv] at c3
 obtain ⟨x1,z1,rfl⟩:=sl_form r1
 obtain ⟨x2,z2,rfl⟩:=sl_form r2
 obtain ⟨x3,z3,rfl⟩:=sl_form r3
 obtain ⟨x4,z4,rfl⟩:=sl_form r4
 have hgw:gg<W1.heap.size:=Nat.lt_of_lt_of_le hg HF1.out.hB
 have e1:decide (m<n)=true:=by simpa using hlt
 obtain ⟨q,hq⟩ : ∃ q:Nat,g.pa=(q:Int):=⟨g.pa.toNat,by omega⟩
 have hpl:(parK g).length=q:=by unfold parK;rw [hq,List.length_take];simp;omega
 have HS:=hide (show SlAt 1 IntP B W1 (.slice x1 q z1) (parK g) from by
  have:=ints_take r1 q (by omega)
  unfold parK
  rw [hq]
  exact this)
 have hcap:q≤g.lo.length∧g.lo.length≤z1:=by
  obtain ⟨_,_,h1,h2,_⟩:=r1
  cases h1
  omega
 have HT:=hide (fun (W:World) (h:Below W1.heap.size W1 W) T=>by
  have:=tks_fit (w:=w) (T:=T) HN.out (bel_tr HB.out h) hk (by rw [hpl];omega) (hpl ▸ is_of_sl (X:=fun _=>False) (ints_keep (Nat.le_refl _) (fun j hj=>h.block j (Nat.lt_of_lt_of_le hj HF1.out.hB)) HS.out) (Nat.le_trans HF1.out.hB h.size) (fun _ _ h=>h))
  rw [hpl] at this
  exact this)
 rw [hq] at y0
 have HPA:=hide (fun W:World=>params_at W (ao:=x1) (v2:=.slice x2 g.re.length z2) (v3:=.slice x3 g.ar.length z3) (v4:=.slice x4 g.co.length z4) hcap.1 hcap.2)
 have HCL:=hide (show ∀ W:World,Below W1.heap.size W1 W→W.cell? ⟨A,3,none⟩=some (.slice (some ⟨gg,oo,none⟩) n c)∧W.cell? ⟨w.heap.size,1,none⟩=some (.int .i64 i.a) from fun W h=>⟨(h.cell (p:=⟨A,3,none⟩) (World.block_lt_of_cell? W1 _ c3)).trans c3,(h.cell (p:=⟨w.heap.size,1,none⟩) (World.block_lt_of_cell? W1 _ i1)).trans i1⟩)
 rw [ha] at i1 hW1 HCL ⊢
 clear hv hnn hx hp hk hl ha r1 r2 r3 r4 HN hq hpl HS hcap
 generalize g.lo.length=l1 at *
 generalize g.re.length=l2 at *
 generalize g.ar.length=l3 at *
 generalize g.co.length=l4 at *
 rw [ho] at i0 hW1 ⊢
 clear ho
 go_enter Tryd.func70,Tryd.ntmps70
 go_wp2_with fail
 refine wp_region_held_drew (S:=(fun W=>W.cell? ⟨A,3,none⟩=some (.slice (some ⟨gg,oo,none⟩) n c)∧W.cell? ⟨w.heap.size,1,none⟩=some (.int .i64 m)∧W.cell? ⟨gg,oo+m*5,none⟩=some (.int .i64 q)∧W.cell? ⟨gg,oo+m*5+1,none⟩=some (.slice x1 l1 z1)∧W.cell? ⟨gg,oo+m*5+2,none⟩=some (.slice x2 l2 z2)∧W.cell? ⟨gg,oo+m*5+3,none⟩=some (.slice x3 l3 z3)∧W.cell? ⟨gg,oo+m*5+4,none⟩=some (.slice x4 l4 z4))) (by kernel_rfl) ⟨c3,i1,y0,y1,y2,y3,y4⟩ (fun hHeld17=>?_)
 refine tk 0 oTd15 ?v18 ?h18 ?_
 case h18=>(intro W h;(try dsimp only at h);go_simp;try with_reducible rfl)
 try simp only [sp]
 refine tk 1 oTd16 ?v19 ?h19 ?_
 case h19=>(intro W h;(try dsimp only at h);go_simp;try with_reducible rfl)
 try simp only [sp]
 refine tk 2 oTd17 ?v20 ?h20 ?_
 case h20=>(intro W h;(try dsimp only at h);go_simp;try with_reducible rfl)
 try simp only [sp]
 refine tk 3 oTd18 ?v21 ?h21 ?_
 case h21=>(intro W h;(try dsimp only at h);go_simp;try with_reducible rfl)
 try simp only [sp]
 refine tk 4 oTd19 ?v22 ?h22 ?_
 case h22=>(intro W h;(try dsimp only at h);go_simp;try with_reducible rfl)
 try simp only [sp]
 refine tk 5 oTd20 ?v23 ?h23 ?_
 case h23=>(intro W h;(try dsimp only at h);go_simp;try with_reducible rfl)
 try simp only [sp]
 refine tk 6 oTd21 ?v24 ?h24 ?_
 case h24=>(intro W h;(try dsimp only at h);go_simp;try with_reducible rfl)
 try simp only [sp]
 refine tk 7 oTd22 ?v25 ?h25 ?_
 case h25=>(intro W h;(try dsimp only at h);go_simp;try with_reducible rfl)
 try simp only [sp]
 refine tk 8 oTd23 ?v26 ?h26 ?_
 case h26=>(intro W h;(try dsimp only at h);go_simp;try with_reducible rfl)
 try simp only [sp]
 refine wpAnyH_ready (rs:=[9]) (by kernel_rfl) (by simp) ?_
 refine AllReadyH.cons (o:=oTd24) rfl (fun K hK=>?_) AllReadyH.nil
 go_simp
 go_at_call 65
 refine (HPA.out _).mono ?_
 rintro e w3 ⟨rfl,hb3⟩
 have HZ:=hide (show Below W1.heap.size W1 w3 from bel_tr (below_drew (Below.refl _ _)) hb3)
 have hke:∀ {b o:Nat} {u:Value},W1.cell? ⟨b,o,none⟩=some u→w3.cell? ⟨b,o,none⟩=some u:=fun {b o u} h=>(HZ.out.cell (p:=⟨b,o,none⟩) (World.block_lt_of_cell? W1 _ h)).trans h
 have HKE:=hide (show w3.cell? ⟨A,3,none⟩=some (.slice (some ⟨gg,oo,none⟩) n c)∧w3.cell? ⟨w.heap.size,1,none⟩=some (.int .i64 m)∧w3.cell? ⟨gg,oo+m*5,none⟩=some (.int .i64 q)∧w3.cell? ⟨gg,oo+m*5+1,none⟩=some (.slice x1 l1 z1)∧w3.cell? ⟨gg,oo+m*5+2,none⟩=some (.slice x2 l2 z2)∧w3.cell? ⟨gg,oo+m*5+3,none⟩=some (.slice x3 l3 z3)∧w3.cell? ⟨gg,oo+m*5+4,none⟩=some (.slice x4 l4 z4) from ⟨hke c3,hke i1,hke y0,hke y1,hke y2,hke y3,hke y4⟩)
 clear hke
 go_wp2_with fail
 refine hK.out _ _ HKE.out (fun hHeld27=>?_)
 clear hK K
 try simp only [sp]
 refine wpAnyH_ready (rs:=[10]) (by kernel_rfl) (by simp) ?_
 refine AllReadyH.cons (o:=oTd25) rfl (fun K hK=>?_) AllReadyH.nil
 go_simp
 go_at_call 78
 refine (fitting_any _ _ _ _).mono ?_
 rintro e w4 ⟨rfl,rfl⟩
 have HK5:=hide (show ∀ (b o:Nat) (u:Value),w3.cell? ⟨b,o,none⟩=some u→(w3.alloc (.cells #[.slice x1 q z1] 44)).cell? ⟨b,o,none⟩=some u from fun b o u h=>(((Below.refl w3.heap.size w3).alloc (Nat.le_refl _) _).cell (p:=⟨b,o,none⟩) (World.block_lt_of_cell? w3 _ h)).trans h)
 obtain ⟨j1,j2,j3,j4,j5,j6,j7⟩:=HKE.out
 go_wp2_with fail
 refine hK.out _ _ ⟨HK5.out _ _ _ j1,HK5.out _ _ _ j2,HK5.out _ _ _ j3,HK5.out _ _ _ j4,HK5.out _ _ _ j5,HK5.out _ _ _ j6,HK5.out _ _ _ j7⟩ (fun hHeld28=>?_)
 clear hK K
 try simp only [sp]
 refine tk 11 oTd26 ?v29 ?h29 ?_
 case h29=>(intro W h;(try dsimp only at h);go_simp;try with_reducible rfl)
 try simp only [sp]
 refine tk 12 oTd27 ?v30 ?h30 ?_
 case h30=>(intro W h;(try dsimp only at h);go_simp;try with_reducible rfl)
 try simp only [sp]
 refine tk 13 oTd28 ?v31 ?h31 ?_
 case h31=>(intro W h;(try dsimp only at h);go_simp;try with_reducible rfl)
 try simp only [sp]
 refine tk 14 oTd29 ?v32 ?h32 ?_
 case h32=>(intro W h;(try dsimp only at h);go_simp;try with_reducible rfl)
 try simp only [sp]
 refine wpAnyH_done (by kernel_rfl) ?_ _
 go_wp2
 go_ret2
 exact HT.out w3 HZ.out _
end
end Go.Proofs.YtfkejdocklcpoaaDoor
