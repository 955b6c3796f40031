import Derived.Test.YtmpjcknaelgnoaaGreatDoorKRVm
set_option maxHeartbeats 4000000
set_option maxRecDepth 20000
namespace Go.Proofs.YtmpjcknaelgnoaaGreatDoor
open Go.RowKit Tryz
set_option linter.all false
theorem zx (ia Va ib Vb:Int)(hia:ia=0∨Va=0)(hib:ib=0∨Vb=0) s p l c q k d s2 p2 l2 c2 q2 k2 d2 (w:World)(h1:VP 0 w s p l c q k d Va)(h2:VP 0 w s2 p2 l2 c2 q2 k2 d2 Vb):Calls prog 45 #[.agg #[.bool false,.int .i64 ia,.bool s,.slice p l c,.slice q k d,.int .i64 ib,.bool s2,.slice p2 l2 c2,.slice q2 k2 d2]] w fun e w'=>∃v,e=.returned v∧Hw ia Va (decide (ia≠0)) ib Vb (decide (ib≠0)) w' v∧Kp w w':=by
 go_enter func45,ntmps45
 go_upto_region 3 with fail
 have F:Kp w ((w.alloc (.cells #[.bool false,.int .i64 ia,.bool s,.slice p l c,.slice q k d,.int .i64 ib,.bool s2,.slice p2 l2 c2,.slice q2 k2 d2] 66)).alloc (.cells #[.bool false,.int .i64 0,.bool false,.slice none 0 0,.slice none 0 0,.int .i64 0,.bool false,.int .i64 0,.bool false,.slice none 0 0,.slice none 0 0,.int .i64 0,.bool false] 61)):=((Kp.refl w).alloc _).alloc _
 have h:BK ((w.alloc (.cells #[.bool false,.int .i64 ia,.bool s,.slice p l c,.slice q k d,.int .i64 ib,.bool s2,.slice p2 l2 c2,.slice q2 k2 d2] 66)).alloc (.cells #[.bool false,.int .i64 0,.bool false,.slice none 0 0,.slice none 0 0,.int .i64 0,.bool false,.int .i64 0,.bool false,.slice none 0 0,.slice none 0 0,.int .i64 0,.bool false] 61)) w.heap.size #[.bool false,.int .i64 ia,.bool s,.slice p l c,.slice q k d,.int .i64 ib,.bool s2,.slice p2 l2 c2,.slice q2 k2 d2] 66:=(BK.new w #[.bool false,.int .i64 ia,.bool s,.slice p l c,.slice q k d,.int .i64 ib,.bool s2,.slice p2 l2 c2,.slice q2 k2 d2] 66).kp ((Kp.refl _).alloc _)
 have hP:BK ((w.alloc (.cells #[.bool false,.int .i64 ia,.bool s,.slice p l c,.slice q k d,.int .i64 ib,.bool s2,.slice p2 l2 c2,.slice q2 k2 d2] 66)).alloc (.cells #[.bool false,.int .i64 0,.bool false,.slice none 0 0,.slice none 0 0,.int .i64 0,.bool false,.int .i64 0,.bool false,.slice none 0 0,.slice none 0 0,.int .i64 0,.bool false] 61)) (w.heap.size+1) #[.bool false,.int .i64 0,.bool false,.slice none 0 0,.slice none 0 0,.int .i64 0,.bool false,.int .i64 0,.bool false,.slice none 0 0,.slice none 0 0,.int .i64 0,.bool false] 61:=BK.newAt (by simp) _ _
 generalize hW:((w.alloc (.cells #[.bool false,.int .i64 ia,.bool s,.slice p l c,.slice q k d,.int .i64 ib,.bool s2,.slice p2 l2 c2,.slice q2 k2 d2] 66)).alloc (.cells #[.bool false,.int .i64 0,.bool false,.slice none 0 0,.slice none 0 0,.int .i64 0,.bool false,.int .i64 0,.bool false,.slice none 0 0,.slice none 0 0,.int .i64 0,.bool false] 61))=W at F h hP|-
 clear hW
 have o:W.cell? ⟨w.heap.size,1,none⟩=some (.int .i64 ia):=(h.cell 1).trans rfl
 have Z:W.drew.cell? ⟨w.heap.size,1,none⟩=some (.int .i64 ia):=o
 have j:W.cell? ⟨w.heap.size,2,none⟩=some (.bool s):=(h.cell 2).trans rfl
 have U:W.drew.cell? ⟨w.heap.size,2,none⟩=some (.bool s):=j
 have n:W.cell? ⟨w.heap.size,3,none⟩=some (.slice p l c):=(h.cell 3).trans rfl
 have M:W.drew.cell? ⟨w.heap.size,3,none⟩=some (.slice p l c):=n
 have i:W.cell? ⟨w.heap.size,4,none⟩=some (.slice q k d):=(h.cell 4).trans rfl
 have T:W.drew.cell? ⟨w.heap.size,4,none⟩=some (.slice q k d):=i
 have t:W.cell? ⟨w.heap.size,5,none⟩=some (.int .i64 ib):=(h.cell 5).trans rfl
 have S:W.drew.cell? ⟨w.heap.size,5,none⟩=some (.int .i64 ib):=t
 have u:W.cell? ⟨w.heap.size,6,none⟩=some (.bool s2):=(h.cell 6).trans rfl
 have J:W.drew.cell? ⟨w.heap.size,6,none⟩=some (.bool s2):=u
 have m:W.cell? ⟨w.heap.size,7,none⟩=some (.slice p2 l2 c2):=(h.cell 7).trans rfl
 have Q:W.drew.cell? ⟨w.heap.size,7,none⟩=some (.slice p2 l2 c2):=m
 have r:W.cell? ⟨w.heap.size,8,none⟩=some (.slice q2 k2 d2):=(h.cell 8).trans rfl
 have H:W.drew.cell? ⟨w.heap.size,8,none⟩=some (.slice q2 k2 d2):=r
 have b:w.heap.size+1≠w.heap.size:=by omega
 go_region_held3 (fun w'=>w'.cell? ⟨w.heap.size,1,none⟩=some (.int .i64 ia)∧w'.cell? ⟨w.heap.size,2,none⟩=some (.bool s)∧w'.cell? ⟨w.heap.size,3,none⟩=some (.slice p l c)∧w'.cell? ⟨w.heap.size,4,none⟩=some (.slice q k d)∧w'.cell? ⟨w.heap.size,5,none⟩=some (.int .i64 ib)∧w'.cell? ⟨w.heap.size,6,none⟩=some (.bool s2)∧w'.cell? ⟨w.heap.size,7,none⟩=some (.slice p2 l2 c2)∧w'.cell? ⟨w.heap.size,8,none⟩=some (.slice q2 k2 d2)) (first|(with_reducible exact⟨Z,U,M,T,S,J,Q,H⟩)|(with_reducible exact⟨V,I,K,aa,O,G,R,Y⟩)|(with_reducible exact⟨y,B,A,C,D,E,z,x⟩)|(exact⟨(rm b y),(rm b B),(rm b A),(rm b C),(rm b D),(rm b E),(rm b z),(rm b x)⟩)) (first|(have z9:=f;go_at_call 102;refine(BP ib Vb s2 p2 l2 c2 q2 k2 d2 hib 0 _ (h2.kp (Kp.trans F f))).mono ?_;rintro e wB ⟨s6,p6,l6,c6,q6,k6,d6,rfl,hB,gB⟩;have g:Kp W wB:=Kp.trans f gB;have a:=hP.kp g;obtain⟨r0,bE,r1,bx,r2,bX,r3,bp,r4,bm,r5,ba,r6,bl,r7,bA,r8,b2,r9,b1,N,a0,X,a2,P,aA⟩:=a.c13;skip;have y:=ac g o;have B:=ac g j;have A:=ac g n;have C:=ac g i;have D:=ac g t;have E:=ac g u;have z:=ac g m;have x:=ac g r)|(go_at_call 102;refine(BP ia Va s p l c q k d hia 0 _ (h1.kp F.drew)).mono ?_;rintro e wA ⟨s5,p5,l5,c5,q5,k5,d5,rfl,hA,gA⟩;have f:Kp W wA:=Kp.trans (Kp.drew (Kp.refl _)) gA;have V:=ac f o;have I:=ac f j;have K:=ac f n;have aa:=ac f i;have O:=ac f t;have G:=ac f u;have R:=ac f m;have Y:=ac f r))
 all_goals (
  go_wp2
  have L:=hA.kp gB
  exact BR (v:=.agg #[.bool false,.int .i64 ia,.bool s5,.slice p5 l5 c5,.slice q5 k5 d5,.int .i64 1,.bool (decide (ia≠0)),.int .i64 ib,.bool s6,.slice p6 l6 c6,.slice q6 k6 d6,.int .i64 1,.bool (decide (ib≠0))]) ⟨_,rfl,⟨s5,p5,l5,c5,q5,k5,d5,s6,p6,l6,c6,q6,k6,d6,rfl,(((((((((((((L.setB a (by decide) 0 _).setB (a.put 0 _) (by decide) 1 _).setB ((a.put 0 _).put 1 _) (by decide) 2 _).setB (((a.put 0 _).put 1 _).put 2 _) (by decide) 3 _).setB ((((a.put 0 _).put 1 _).put 2 _).put 3 _) (by decide) 4 _).setB (((((a.put 0 _).put 1 _).put 2 _).put 3 _).put 4 _) (by decide) 5 _).setB ((((((a.put 0 _).put 1 _).put 2 _).put 3 _).put 4 _).put 5 _) (by decide) 6 _).setB (((((((a.put 0 _).put 1 _).put 2 _).put 3 _).put 4 _).put 5 _).put 6 _) (by decide) 7 _).setB ((((((((a.put 0 _).put 1 _).put 2 _).put 3 _).put 4 _).put 5 _).put 6 _).put 7 _) (by decide) 8 _).setB (((((((((a.put 0 _).put 1 _).put 2 _).put 3 _).put 4 _).put 5 _).put 6 _).put 7 _).put 8 _) (by decide) 9 _).setB ((((((((((a.put 0 _).put 1 _).put 2 _).put 3 _).put 4 _).put 5 _).put 6 _).put 7 _).put 8 _).put 9 _) (by decide) 10 _).setB (((((((((((a.put 0 _).put 1 _).put 2 _).put 3 _).put 4 _).put 5 _).put 6 _).put 7 _).put 8 _).put 9 _).put 10 _) (by decide) 11 _).setB ((((((((((((a.put 0 _).put 1 _).put 2 _).put 3 _).put 4 _).put 5 _).put 6 _).put 7 _).put 8 _).put 9 _).put 10 _).put 11 _) (by decide) 12 _),(((((((((((((hB.setB a (by decide) 0 _).setB (a.put 0 _) (by decide) 1 _).setB ((a.put 0 _).put 1 _) (by decide) 2 _).setB (((a.put 0 _).put 1 _).put 2 _) (by decide) 3 _).setB ((((a.put 0 _).put 1 _).put 2 _).put 3 _) (by decide) 4 _).setB (((((a.put 0 _).put 1 _).put 2 _).put 3 _).put 4 _) (by decide) 5 _).setB ((((((a.put 0 _).put 1 _).put 2 _).put 3 _).put 4 _).put 5 _) (by decide) 6 _).setB (((((((a.put 0 _).put 1 _).put 2 _).put 3 _).put 4 _).put 5 _).put 6 _) (by decide) 7 _).setB ((((((((a.put 0 _).put 1 _).put 2 _).put 3 _).put 4 _).put 5 _).put 6 _).put 7 _) (by decide) 8 _).setB (((((((((a.put 0 _).put 1 _).put 2 _).put 3 _).put 4 _).put 5 _).put 6 _).put 7 _).put 8 _) (by decide) 9 _).setB ((((((((((a.put 0 _).put 1 _).put 2 _).put 3 _).put 4 _).put 5 _).put 6 _).put 7 _).put 8 _).put 9 _) (by decide) 10 _).setB (((((((((((a.put 0 _).put 1 _).put 2 _).put 3 _).put 4 _).put 5 _).put 6 _).put 7 _).put 8 _).put 9 _).put 10 _) (by decide) 11 _).setB ((((((((((((a.put 0 _).put 1 _).put 2 _).put 3 _).put 4 _).put 5 _).put 6 _).put 7 _).put 8 _).put 9 _).put 10 _).put 11 _) (by decide) 12 _)⟩,sM ((Kp.trans F g)) (by omega)⟩ (by simp[results,results45,go_sem,r0,r1,r2,r3,r4,r5,r6,r7,r8,r9,N,X,P]))
theorem og (o9:Bool)(w:World):Calls prog 61 #[.int .i64 0,.bool o9] w fun e w'=>∃s p l c q k d,e=.returned (.agg #[.int .i64 0,.bool s,.slice p l c,.slice q k d,.int .i64 1,.bool o9])∧VP 0 w' s p l c q k d 0∧Kp w w':=by
 go_enter func61,ntmps61
 go_wp2_with (first|(go_at_call 118;refine(mS _).mono ?_;rintro e i ⟨s,p,l,c,q,k,d,rfl,y,b⟩;have a:=(BK.new w #[.int .i64 0,.bool false,.slice none 0 0,.slice none 0 0,.int .i64 0,.bool false] 59).kp b;obtain⟨r,n,h,g,j,u,o,t,z,m,A,f⟩:=a.c6;skip))
 have x:VP 0 i s p l c q k d 0:=Dv ▸ (y.vp).mono (aW _)
 exact BR (v:=.agg #[.int .i64 0,.bool s,.slice p l c,.slice q k d,.int .i64 1,.bool o9]) ⟨s,p,l,c,q,k,d,rfl,((((((x.setB a (by decide) 0 _).setB (a.put 0 _) (by decide) 1 _).setB ((a.put 0 _).put 1 _) (by decide) 2 _).setB (((a.put 0 _).put 1 _).put 2 _) (by decide) 3 _).setB ((((a.put 0 _).put 1 _).put 2 _).put 3 _) (by decide) 4 _).setB (((((a.put 0 _).put 1 _).put 2 _).put 3 _).put 4 _) (by decide) 5 _),Er ((Kp.trans ((Kp.refl w).alloc _) b)) (ao _)⟩ (by simp[results,results61,go_sem,r,h,j,o,z,A])
set_option linter.all false
theorem FA {c:Bool}{p q:Prop}(h:c=false)(hq:q):if c=true then p else q:=by subst h;exact hq
theorem BV (x0 x1 y1 y2 y3 y4 y5 y6 y7 y8 y9 y10 y11 y12:Value)(w:World):Calls prog 92 #[.agg #[x0,x1],.agg #[.bool true,y1,y2,y3,y4,y5,y6,y7,y8,y9,y10,y11,y12]] w (RT (.agg #[.int .u64 9218868437227405312,.int .u64 18442240474082181120]) w):=by
 go_enter func92,ntmps92
 go_upto_region 1 with fail
 obtain⟨W,d,f,-,m,c⟩:=Ek w #[x0,x1] 24 #[.bool true,y1,y2,y3,y4,y5,y6,y7,y8,y9,y10,y11,y12] 61 #[.int .u64 0,.int .u64 0] 24
 rw[<-d];clear d
 have b:W.cell? ⟨w.heap.size+1,0,none⟩=some (.bool true):=(m.cell 0).trans rfl
 have a:Kp W W.drew:=(Kp.refl _).drew
 refine wp_region_held_drew (S:=(fun w':World=>w'.cell? ⟨w.heap.size+1,0,none⟩=some (.bool true))) (by kernel_rfl) (ac a b) (fun _=>?_)
 refine wpAnyH_take (i:=0) (v:=.pointer (some ⟨w.heap.size+1,0,none⟩)) rfl (by kernel_rfl) (by kernel_rfl) (by kernel_rfl) (fun _ _ _ h=>h) (Or.inl ⟨by rfl,fun w _hS=>rfl⟩) (ac a b) ?_
 try simp only[Act.put,aJ,aC,aD,ax,aO,aL]
 refine wpAnyH_take (i:=1) (v:=.bool true) rfl (by kernel_rfl) (by kernel_rfl) (by kernel_rfl) (fun _ _ _ h=>h) (Or.inl ⟨by rfl,fun w _hS=>by simp[go_sem,_hS]⟩) (ac a b) ?_
 try simp only[Act.put,aJ,aC,aD,ax,aO,aL]
 refine wpAnyH_take (i:=2) (v:=.bool true) rfl (by kernel_rfl) (by kernel_rfl) (by kernel_rfl) (fun _ _ _ h=>h) (Or.inl ⟨by rfl,fun w _hS=>rfl⟩) (ac a b) ?_
 try simp only[Act.put,aJ,aC,aD,ax,aO,aL]
 refine wpAnyH_take (i:=3) (v:=undef) rfl (by kernel_rfl) (by kernel_rfl) (by kernel_rfl) (fun _ _ _ h=>h) (Or.inr ⟨by rfl,rfl⟩) (ac a b) ?_
 try simp only[Act.put,aJ,aC,aD,ax,aO,aL]
 refine wpAnyH_ready (rs:=[4]) (by kernel_rfl) (by simp) ?_
 refine AllReadyH.cons rfl (fun K hK=>?_) AllReadyH.nil
 refine FA (by rfl) ?_
 refine hK.out _ _ (ac a b) (fun _=>?_)
 clear hK K
 try simp only[Act.put,aJ,aC,aD,ax,aO,aL]
 refine wpAnyH_take (i:=5) (v:=undef) rfl (by kernel_rfl) (by kernel_rfl) (by kernel_rfl) (fun _ _ _ h=>h) (Or.inr ⟨by rfl,rfl⟩) (ac a b) ?_
 try simp only[Act.put,aJ,aC,aD,ax,aO,aL]
 refine wpAnyH_take (i:=6) (v:=.bool true) rfl (by kernel_rfl) (by kernel_rfl) (by kernel_rfl) (fun _ _ _ h=>h) (Or.inl ⟨by rfl,fun w _hS=>rfl⟩) (ac a b) ?_
 try simp only[Act.put,aJ,aC,aD,ax,aO,aL]
 refine wpAnyH_done (by kernel_rfl) ?_ _
 replace c:=c.kp a
 replace f:=Kp.trans f a
 obtain⟨s,p,r,l⟩:=c.c2;skip
 go_wp2_with (first|(go_at_call 72;refine(iW _).mono ?_;rintro e q ⟨rfl,g⟩;replace c:=c.kp g;obtain⟨o,n,k,j⟩:=c.c2;skip))
 exact BR (v:=.agg #[.int .u64 9218868437227405312,.int .u64 18442240474082181120]) ⟨rfl,(((Kp.trans f g).setCell (by (simp<;>omega)) _).setCell (by (simp<;>omega)) _)⟩ (by simp[results,results92,go_sem,o,k])
theorem Au (i j i2 j2:Int) s p l c q k d s2 p2 l2 c2 q2 k2 d2 s5 p5 l5 c5 q5 k5 d5 s6 p6 l6 c6 q6 k6 d6 (N2:Bool)(w:World):Calls prog 100 #[.agg #[.bool true,.int .i64 i,.bool s,.slice p l c,.slice q k d,.int .i64 j,.bool s2,.slice p2 l2 c2,.slice q2 k2 d2],.agg #[.bool N2,.int .i64 i2,.bool s5,.slice p5 l5 c5,.slice q5 k5 d5,.int .i64 j2,.bool s6,.slice p6 l6 c6,.slice q6 k6 d6]] w (RT (.agg #[.bool N2,.int .i64 i2,.bool s5,.slice p5 l5 c5,.slice q5 k5 d5,.int .i64 j2,.bool s6,.slice p6 l6 c6,.slice q6 k6 d6]) w):=by
 go_enter func100,ntmps100
 go_wp2
 exact BR (v:=.agg #[.bool N2,.int .i64 i2,.bool s5,.slice p5 l5 c5,.slice q5 k5 d5,.int .i64 j2,.bool s6,.slice p6 l6 c6,.slice q6 k6 d6]) ⟨rfl,(by repeat(with_reducible(first|exact Kp.refl _|apply Kp.alloc)))⟩
theorem At (i j i2 j2:Int) s p l c q k d s2 p2 l2 c2 q2 k2 d2 s5 p5 l5 c5 q5 k5 d5 s6 p6 l6 c6 q6 k6 d6 (w:World):Calls prog 100 #[.agg #[.bool false,.int .i64 i,.bool s,.slice p l c,.slice q k d,.int .i64 j,.bool s2,.slice p2 l2 c2,.slice q2 k2 d2],.agg #[.bool true,.int .i64 i2,.bool s5,.slice p5 l5 c5,.slice q5 k5 d5,.int .i64 j2,.bool s6,.slice p6 l6 c6,.slice q6 k6 d6]] w (RT (.agg #[.bool false,.int .i64 i,.bool s,.slice p l c,.slice q k d,.int .i64 j,.bool s2,.slice p2 l2 c2,.slice q2 k2 d2]) w):=by
 go_enter func100,ntmps100
 go_wp2
 exact BR (v:=.agg #[.bool false,.int .i64 i,.bool s,.slice p l c,.slice q k d,.int .i64 j,.bool s2,.slice p2 l2 c2,.slice q2 k2 d2]) ⟨rfl,(by repeat(with_reducible(first|exact Kp.refl _|apply Kp.alloc)))⟩
theorem oY (i j i2 j2:Int) s p l c q k d s2 p2 l2 c2 q2 k2 d2 s5 p5 l5 c5 q5 k5 d5 s6 p6 l6 c6 q6 k6 d6 (i3 j3:Int) s7 p7 l7 c7 q7 k7 d7 s8 p8 l8 c8 q8 k8 d8 (w:World)(hl:KW w 122 #[.agg #[.int .i64 i,.bool s,.slice p l c,.slice q k d],.agg #[.int .i64 i2,.bool s5,.slice p5 l5 c5,.slice q5 k5 d5]] (.agg #[.int .i64 i3,.bool s7,.slice p7 l7 c7,.slice q7 k7 d7]))(hg:KW w 123 #[.agg #[.int .i64 j,.bool s2,.slice p2 l2 c2,.slice q2 k2 d2],.agg #[.int .i64 j2,.bool s6,.slice p6 l6 c6,.slice q6 k6 d6]] (.agg #[.int .i64 j3,.bool s8,.slice p8 l8 c8,.slice q8 k8 d8])):Calls prog 100 #[.agg #[.bool false,.int .i64 i,.bool s,.slice p l c,.slice q k d,.int .i64 j,.bool s2,.slice p2 l2 c2,.slice q2 k2 d2],.agg #[.bool false,.int .i64 i2,.bool s5,.slice p5 l5 c5,.slice q5 k5 d5,.int .i64 j2,.bool s6,.slice p6 l6 c6,.slice q6 k6 d6]] w (RT (.agg #[.bool false,.int .i64 i3,.bool s7,.slice p7 l7 c7,.slice q7 k7 d7,.int .i64 j3,.bool s8,.slice p8 l8 c8,.slice q8 k8 d8]) w):=by
 go_enter func100,ntmps100
 go_upto_region 5 with fail
 have kw:Kp w (((w.alloc (.cells #[.bool false,.int .i64 i,.bool s,.slice p l c,.slice q k d,.int .i64 j,.bool s2,.slice p2 l2 c2,.slice q2 k2 d2] 66)).alloc (.cells #[.bool false,.int .i64 i2,.bool s5,.slice p5 l5 c5,.slice q5 k5 d5,.int .i64 j2,.bool s6,.slice p6 l6 c6,.slice q6 k6 d6] 66)).alloc (.cells #[.bool false,.int .i64 0,.bool false,.slice none 0 0,.slice none 0 0,.int .i64 0,.bool false,.slice none 0 0,.slice none 0 0] 66)):=(((Kp.refl w).alloc _).alloc _).alloc _
 generalize hW:(((w.alloc (.cells #[.bool false,.int .i64 i,.bool s,.slice p l c,.slice q k d,.int .i64 j,.bool s2,.slice p2 l2 c2,.slice q2 k2 d2] 66)).alloc (.cells #[.bool false,.int .i64 i2,.bool s5,.slice p5 l5 c5,.slice q5 k5 d5,.int .i64 j2,.bool s6,.slice p6 l6 c6,.slice q6 k6 d6] 66)).alloc (.cells #[.bool false,.int .i64 0,.bool false,.slice none 0 0,.slice none 0 0,.int .i64 0,.bool false,.slice none 0 0,.slice none 0 0] 66))=W at kw|-
 have H:W.cell? ⟨w.heap.size,1,none⟩=some (.int .i64 i):=by rw[<-hW];simp[go_sem]
 have bB:W.drew.cell? ⟨w.heap.size,1,none⟩=some (.int .i64 i):=H
 have D:W.cell? ⟨w.heap.size,2,none⟩=some (.bool s):=by rw[<-hW];simp[go_sem]
 have bv:W.drew.cell? ⟨w.heap.size,2,none⟩=some (.bool s):=D
 have G:W.cell? ⟨w.heap.size,3,none⟩=some (.slice p l c):=by rw[<-hW];simp[go_sem]
 have a9:W.drew.cell? ⟨w.heap.size,3,none⟩=some (.slice p l c):=G
 have C:W.cell? ⟨w.heap.size,4,none⟩=some (.slice q k d):=by rw[<-hW];simp[go_sem]
 have bu:W.drew.cell? ⟨w.heap.size,4,none⟩=some (.slice q k d):=C
 have K:W.cell? ⟨w.heap.size,5,none⟩=some (.int .i64 j):=by rw[<-hW];simp[go_sem]
 have bt:W.drew.cell? ⟨w.heap.size,5,none⟩=some (.int .i64 j):=K
 have L:W.cell? ⟨w.heap.size,6,none⟩=some (.bool s2):=by rw[<-hW];simp[go_sem]
 have a6:W.drew.cell? ⟨w.heap.size,6,none⟩=some (.bool s2):=L
 have E:W.cell? ⟨w.heap.size,7,none⟩=some (.slice p2 l2 c2):=by rw[<-hW];simp[go_sem]
 have bl:W.drew.cell? ⟨w.heap.size,7,none⟩=some (.slice p2 l2 c2):=E
 have J:W.cell? ⟨w.heap.size,8,none⟩=some (.slice q2 k2 d2):=by rw[<-hW];simp[go_sem]
 have a3:W.drew.cell? ⟨w.heap.size,8,none⟩=some (.slice q2 k2 d2):=J
 have F:W.cell? ⟨w.heap.size+1,1,none⟩=some (.int .i64 i2):=by rw[<-hW];simp[go_sem]
 have bm:W.drew.cell? ⟨w.heap.size+1,1,none⟩=some (.int .i64 i2):=F
 have I:W.cell? ⟨w.heap.size+1,2,none⟩=some (.bool s5):=by rw[<-hW];simp[go_sem]
 have a5:W.drew.cell? ⟨w.heap.size+1,2,none⟩=some (.bool s5):=I
 have t:W.cell? ⟨w.heap.size+1,3,none⟩=some (.slice p5 l5 c5):=by rw[<-hW];simp[go_sem]
 have an:W.drew.cell? ⟨w.heap.size+1,3,none⟩=some (.slice p5 l5 c5):=t
 have m:W.cell? ⟨w.heap.size+1,4,none⟩=some (.slice q5 k5 d5):=by rw[<-hW];simp[go_sem]
 have U:W.drew.cell? ⟨w.heap.size+1,4,none⟩=some (.slice q5 k5 d5):=m
 have r:W.cell? ⟨w.heap.size+1,5,none⟩=some (.int .i64 j2):=by rw[<-hW];simp[go_sem]
 have S:W.drew.cell? ⟨w.heap.size+1,5,none⟩=some (.int .i64 j2):=r
 have h:W.cell? ⟨w.heap.size+1,6,none⟩=some (.bool s6):=by rw[<-hW];simp[go_sem]
 have P:W.drew.cell? ⟨w.heap.size+1,6,none⟩=some (.bool s6):=h
 have n:W.cell? ⟨w.heap.size+1,7,none⟩=some (.slice p6 l6 c6):=by rw[<-hW];simp[go_sem]
 have T:W.drew.cell? ⟨w.heap.size+1,7,none⟩=some (.slice p6 l6 c6):=n
 have o:W.cell? ⟨w.heap.size+1,8,none⟩=some (.slice q6 k6 d6):=by rw[<-hW];simp[go_sem]
 have ad:W.drew.cell? ⟨w.heap.size+1,8,none⟩=some (.slice q6 k6 d6):=o
 obtain⟨r0,bq,r1,bo,r2,br,r3,bc,r4,bb,r5,a2,r6,ba,r7,bp,r8,bL⟩:W.cell? ⟨w.heap.size+2,0,none⟩=some (.bool false)∧W.frozen? ⟨w.heap.size+2,0,none⟩=false∧W.cell? ⟨w.heap.size+2,1,none⟩=some (.int .i64 0)∧W.frozen? ⟨w.heap.size+2,1,none⟩=false∧W.cell? ⟨w.heap.size+2,2,none⟩=some (.bool false)∧W.frozen? ⟨w.heap.size+2,2,none⟩=false∧W.cell? ⟨w.heap.size+2,3,none⟩=some (.slice none 0 0)∧W.frozen? ⟨w.heap.size+2,3,none⟩=false∧W.cell? ⟨w.heap.size+2,4,none⟩=some (.slice none 0 0)∧W.frozen? ⟨w.heap.size+2,4,none⟩=false∧W.cell? ⟨w.heap.size+2,5,none⟩=some (.int .i64 0)∧W.frozen? ⟨w.heap.size+2,5,none⟩=false∧W.cell? ⟨w.heap.size+2,6,none⟩=some (.bool false)∧W.frozen? ⟨w.heap.size+2,6,none⟩=false∧W.cell? ⟨w.heap.size+2,7,none⟩=some (.slice none 0 0)∧W.frozen? ⟨w.heap.size+2,7,none⟩=false∧W.cell? ⟨w.heap.size+2,8,none⟩=some (.slice none 0 0)∧W.frozen? ⟨w.heap.size+2,8,none⟩=false:=by rw[<-hW];simp[go_sem]
 clear hW
 have g:w.heap.size+2≠w.heap.size:=by omega
 have f:w.heap.size+2≠w.heap.size+1:=by omega
 go_region_held3 (fun w'=>w'.cell? ⟨w.heap.size,1,none⟩=some (.int .i64 i)∧w'.cell? ⟨w.heap.size,2,none⟩=some (.bool s)∧w'.cell? ⟨w.heap.size,3,none⟩=some (.slice p l c)∧w'.cell? ⟨w.heap.size,4,none⟩=some (.slice q k d)∧w'.cell? ⟨w.heap.size,5,none⟩=some (.int .i64 j)∧w'.cell? ⟨w.heap.size,6,none⟩=some (.bool s2)∧w'.cell? ⟨w.heap.size,7,none⟩=some (.slice p2 l2 c2)∧w'.cell? ⟨w.heap.size,8,none⟩=some (.slice q2 k2 d2)∧w'.cell? ⟨w.heap.size+1,1,none⟩=some (.int .i64 i2)∧w'.cell? ⟨w.heap.size+1,2,none⟩=some (.bool s5)∧w'.cell? ⟨w.heap.size+1,3,none⟩=some (.slice p5 l5 c5)∧w'.cell? ⟨w.heap.size+1,4,none⟩=some (.slice q5 k5 d5)∧w'.cell? ⟨w.heap.size+1,5,none⟩=some (.int .i64 j2)∧w'.cell? ⟨w.heap.size+1,6,none⟩=some (.bool s6)∧w'.cell? ⟨w.heap.size+1,7,none⟩=some (.slice p6 l6 c6)∧w'.cell? ⟨w.heap.size+1,8,none⟩=some (.slice q6 k6 d6)) (first|(with_reducible exact⟨bB,bv,a9,bu,bt,a6,bl,a3,bm,a5,an,U,S,P,T,ad⟩)|(with_reducible exact⟨bx,a4,a7,bH,bf,a1,bn,bA,a8,bE,M,aA,ar,au,aw,Y⟩)|(with_reducible exact⟨O,V,R,X,Z,ab,Q,N,aj,aa,A,y,z,u,x,B⟩)|(exact⟨(jB g O),(jB g V),(jB g R),(jB g X),(jB g Z),(jB g ab),(jB g Q),(jB g N),(jB f aj),(jB f aa),(jB f A),(jB f y),(jB f z),(jB f u),(jB f x),(jB f B)⟩)) (first|(go_at_call 122;refine(hl _ ?q0).mono ?_;(case q0=>exact kw.drew);rintro e wA ⟨rfl,gA⟩;have a:Kp W wA:=Kp.trans (Kp.drew (Kp.refl _)) gA;have bx:=ac a H;have a4:=ac a D;have a7:=ac a G;have bH:=ac a C;have bf:=ac a K;have a1:=ac a L;have bn:=ac a E;have bA:=ac a J;have a8:=ac a F;have bE:=ac a I;have M:=ac a t;have aA:=ac a m;have ar:=ac a r;have au:=ac a h;have aw:=ac a n;have Y:=ac a o)|(go_at_call 123;refine(hg _ ?q1).mono ?_;(case q1=>exact kw.trans a);rintro e wB ⟨rfl,gB⟩;have b:Kp W wB:=Kp.trans a gB;have O:=ac b H;have V:=ac b D;have R:=ac b G;have X:=ac b C;have Z:=ac b K;have ab:=ac b L;have Q:=ac b E;have N:=ac b J;have aj:=ac b F;have aa:=ac b I;have A:=ac b t;have y:=ac b m;have z:=ac b r;have u:=ac b h;have x:=ac b n;have B:=ac b o;obtain⟨R0,ce,R1,cc,R2,b2,R3,cf,R4,ct,R5,bR,R6,cs,R7,b5,R8,cq⟩:=BQ b ⟨r0,bq,r1,bo,r2,br,r3,bc,r4,bb,r5,a2,r6,ba,r7,bp,r8,bL⟩))
 all_goals (
  go_wp2
  exact BR (v:=.agg #[.bool false,.int .i64 i3,.bool s7,.slice p7 l7 c7,.slice q7 k7 d7,.int .i64 j3,.bool s8,.slice p8 l8 c8,.slice q8 k8 d8]) ⟨rfl,yR ((Kp.trans kw b)) (by omega)⟩ (by simp[results,results100,go_sem,R0,R1,R2,R3,R4,R5,R6,R7,R8]))
theorem Ap (i j i2 j2:Int) s p l c q k d s2 p2 l2 c2 q2 k2 d2 s5 p5 l5 c5 q5 k5 d5 s6 p6 l6 c6 q6 k6 d6 (w:World)(hl:KW w 122 #[.agg #[.int .i64 i,.bool s,.slice p l c,.slice q k d],.agg #[.int .i64 i2,.bool s5,.slice p5 l5 c5,.slice q5 k5 d5]] (.agg #[.int .i64 i2,.bool s5,.slice p5 l5 c5,.slice q5 k5 d5]))(hg:KW w 123 #[.agg #[.int .i64 j,.bool s2,.slice p2 l2 c2,.slice q2 k2 d2],.agg #[.int .i64 j2,.bool s6,.slice p6 l6 c6,.slice q6 k6 d6]] (.agg #[.int .i64 j2,.bool s6,.slice p6 l6 c6,.slice q6 k6 d6])):Calls prog 100 #[.agg #[.bool false,.int .i64 i,.bool s,.slice p l c,.slice q k d,.int .i64 j,.bool s2,.slice p2 l2 c2,.slice q2 k2 d2],.agg #[.bool false,.int .i64 i2,.bool s5,.slice p5 l5 c5,.slice q5 k5 d5,.int .i64 j2,.bool s6,.slice p6 l6 c6,.slice q6 k6 d6]] w (RT (.agg #[.bool false,.int .i64 i2,.bool s5,.slice p5 l5 c5,.slice q5 k5 d5,.int .i64 j2,.bool s6,.slice p6 l6 c6,.slice q6 k6 d6]) w) :=
 oY i j i2 j2 s p l c q k d s2 p2 l2 c2 q2 k2 d2 s5 p5 l5 c5 q5 k5 d5 s6 p6 l6 c6 q6 k6 d6 i2 j2 s5 p5 l5 c5 q5 k5 d5 s6 p6 l6 c6 q6 k6 d6 w hl hg
theorem Aq (i j i2 j2:Int) s p l c q k d s2 p2 l2 c2 q2 k2 d2 s5 p5 l5 c5 q5 k5 d5 s6 p6 l6 c6 q6 k6 d6 (w:World)(hl:KW w 122 #[.agg #[.int .i64 i,.bool s,.slice p l c,.slice q k d],.agg #[.int .i64 i2,.bool s5,.slice p5 l5 c5,.slice q5 k5 d5]] (.agg #[.int .i64 i2,.bool s5,.slice p5 l5 c5,.slice q5 k5 d5]))(hg:KW w 123 #[.agg #[.int .i64 j,.bool s2,.slice p2 l2 c2,.slice q2 k2 d2],.agg #[.int .i64 j2,.bool s6,.slice p6 l6 c6,.slice q6 k6 d6]] (.agg #[.int .i64 j,.bool s2,.slice p2 l2 c2,.slice q2 k2 d2])):Calls prog 100 #[.agg #[.bool false,.int .i64 i,.bool s,.slice p l c,.slice q k d,.int .i64 j,.bool s2,.slice p2 l2 c2,.slice q2 k2 d2],.agg #[.bool false,.int .i64 i2,.bool s5,.slice p5 l5 c5,.slice q5 k5 d5,.int .i64 j2,.bool s6,.slice p6 l6 c6,.slice q6 k6 d6]] w (RT (.agg #[.bool false,.int .i64 i2,.bool s5,.slice p5 l5 c5,.slice q5 k5 d5,.int .i64 j,.bool s2,.slice p2 l2 c2,.slice q2 k2 d2]) w) :=
 oY i j i2 j2 s p l c q k d s2 p2 l2 c2 q2 k2 d2 s5 p5 l5 c5 q5 k5 d5 s6 p6 l6 c6 q6 k6 d6 i2 j s5 p5 l5 c5 q5 k5 d5 s2 p2 l2 c2 q2 k2 d2 w hl hg
theorem Ar (i j i2 j2:Int) s p l c q k d s2 p2 l2 c2 q2 k2 d2 s5 p5 l5 c5 q5 k5 d5 s6 p6 l6 c6 q6 k6 d6 (w:World)(hl:KW w 122 #[.agg #[.int .i64 i,.bool s,.slice p l c,.slice q k d],.agg #[.int .i64 i2,.bool s5,.slice p5 l5 c5,.slice q5 k5 d5]] (.agg #[.int .i64 i,.bool s,.slice p l c,.slice q k d]))(hg:KW w 123 #[.agg #[.int .i64 j,.bool s2,.slice p2 l2 c2,.slice q2 k2 d2],.agg #[.int .i64 j2,.bool s6,.slice p6 l6 c6,.slice q6 k6 d6]] (.agg #[.int .i64 j2,.bool s6,.slice p6 l6 c6,.slice q6 k6 d6])):Calls prog 100 #[.agg #[.bool false,.int .i64 i,.bool s,.slice p l c,.slice q k d,.int .i64 j,.bool s2,.slice p2 l2 c2,.slice q2 k2 d2],.agg #[.bool false,.int .i64 i2,.bool s5,.slice p5 l5 c5,.slice q5 k5 d5,.int .i64 j2,.bool s6,.slice p6 l6 c6,.slice q6 k6 d6]] w (RT (.agg #[.bool false,.int .i64 i,.bool s,.slice p l c,.slice q k d,.int .i64 j2,.bool s6,.slice p6 l6 c6,.slice q6 k6 d6]) w) :=
 oY i j i2 j2 s p l c q k d s2 p2 l2 c2 q2 k2 d2 s5 p5 l5 c5 q5 k5 d5 s6 p6 l6 c6 q6 k6 d6 i j2 s p l c q k d s6 p6 l6 c6 q6 k6 d6 w hl hg
theorem As (i j i2 j2:Int) s p l c q k d s2 p2 l2 c2 q2 k2 d2 s5 p5 l5 c5 q5 k5 d5 s6 p6 l6 c6 q6 k6 d6 (w:World)(hl:KW w 122 #[.agg #[.int .i64 i,.bool s,.slice p l c,.slice q k d],.agg #[.int .i64 i2,.bool s5,.slice p5 l5 c5,.slice q5 k5 d5]] (.agg #[.int .i64 i,.bool s,.slice p l c,.slice q k d]))(hg:KW w 123 #[.agg #[.int .i64 j,.bool s2,.slice p2 l2 c2,.slice q2 k2 d2],.agg #[.int .i64 j2,.bool s6,.slice p6 l6 c6,.slice q6 k6 d6]] (.agg #[.int .i64 j,.bool s2,.slice p2 l2 c2,.slice q2 k2 d2])):Calls prog 100 #[.agg #[.bool false,.int .i64 i,.bool s,.slice p l c,.slice q k d,.int .i64 j,.bool s2,.slice p2 l2 c2,.slice q2 k2 d2],.agg #[.bool false,.int .i64 i2,.bool s5,.slice p5 l5 c5,.slice q5 k5 d5,.int .i64 j2,.bool s6,.slice p6 l6 c6,.slice q6 k6 d6]] w (RT (.agg #[.bool false,.int .i64 i,.bool s,.slice p l c,.slice q k d,.int .i64 j,.bool s2,.slice p2 l2 c2,.slice q2 k2 d2]) w) :=
 oY i j i2 j2 s p l c q k d s2 p2 l2 c2 q2 k2 d2 s5 p5 l5 c5 q5 k5 d5 s6 p6 l6 c6 q6 k6 d6 i j s p l c q k d s2 p2 l2 c2 q2 k2 d2 w hl hg
set_option linter.all false
theorem uf (x y:Int)(h:¬x<y):¬(eh x y<0):=by unfold eh;rw[if_neg h];split<;>omega
theorem ug (x y:Int)(h:¬y<x):¬(0<eh x y):=by unfold eh;rw[if_neg h];split<;>omega
theorem tT (W:World)(u v:Value)(h1:rk true u)(N2:Bool)(h2:rk N2 v):Calls prog 100 #[u,v] W fun e w'=>e=.returned v∧Kp W w':=by
 obtain⟨i,j,s,p,l,c,q,k,d,F,m,n,c2,E,o,z,rfl⟩:=h1
 obtain⟨B,D,a,A,G,t,H,x,b,r,g,h,c6,C,f,y,rfl⟩:=h2
 exact Au i j B D s p l c q k d F m n c2 E o z a A G t H x b r g h c6 C f y N2 W
theorem Ao (W:World)(u v:Value)(h1:rk false u)(h2:rk true v):Calls prog 100 #[u,v] W fun e w'=>e=.returned u∧Kp W w':=by
 obtain⟨i,j,s,p,l,c,q,k,d,F,m,n,c2,E,o,z,rfl⟩:=h1
 obtain⟨B,D,a,A,G,t,H,x,b,r,g,h,c6,C,f,y,rfl⟩:=h2
 exact At i j B D s p l c q k d F m n c2 E o z a A G t H x b r g h c6 C f y W
theorem yf (n1 g1 n2 g2:Bool)(m1 r1 m2 r2:Nat)(l1:m1<=9218868437227405312)(l2:r1<=9218868437227405312)(l3:m2<=9218868437227405312)(l4:r2<=9218868437227405312)(c1:Fq.gU n2 m2<Fq.gU n1 m1)(c2:Fq.gU g1 r1<Fq.gU g2 r2)(W:World)(u v:Value)(h1:SV1 n1 m1 g1 r1 W u)(h2:SV1 n2 m2 g2 r2 W v):Calls prog 100 #[u,v] W fun e w'=>∃v',e=.returned v'∧SV1 n2 m2 g2 r2 w' v'∧Kp W w':=by
 obtain⟨s,p,l,c,q,k,d,G,C,a,b,F,D,E,rfl,J,K⟩:=h1
 obtain⟨f,x,A,o,B,r,h,n,j,m,c6,z,i,t,rfl,I,H⟩:=h2
 refine(Ap _ _ _ _ s p l c q k d G C a b F D E f x A o B r h n j m c6 z i t W (fun W' g=>qJ (dT n1 m1) (dT n2 m2) _ s p l c q k d f x A o B r h (by rw[fc _ _ c1];decide) W' (fun W2 y=>lR 0 0 n2 n1 m2 m1 l3 l1 f x A o B r h s p l c q k d W2 ((I.kp g).kp y) ((J.kp g).kp y))) (fun W' g=>kZ (dT g1 r1) (dT g2 r2) _ G C a b F D E n j m c6 z i t (by rw[eK _ _ c2];decide) W' (fun W2 y=>lR 0 0 g2 g1 r2 r1 l4 l2 n j m c6 z i t G C a b F D E W2 ((H.kp g).kp y) ((K.kp g).kp y)))).mono ?_
 rintro e w' ⟨rfl,g⟩
 exact⟨_,rfl,⟨f,x,A,o,B,r,h,n,j,m,c6,z,i,t,rfl,I.kp g,H.kp g⟩,g⟩
theorem yg (n1 g1 n2 g2:Bool)(m1 r1 m2 r2:Nat)(l1:m1<=9218868437227405312)(l2:r1<=9218868437227405312)(l3:m2<=9218868437227405312)(l4:r2<=9218868437227405312)(c1:Fq.gU n2 m2<Fq.gU n1 m1)(c2:¬Fq.gU g1 r1<Fq.gU g2 r2)(W:World)(u v:Value)(h1:SV1 n1 m1 g1 r1 W u)(h2:SV1 n2 m2 g2 r2 W v):Calls prog 100 #[u,v] W fun e w'=>∃v',e=.returned v'∧SV1 n2 m2 g1 r1 w' v'∧Kp W w':=by
 obtain⟨s,p,l,c,q,k,d,x,i,a,b,t,j,o,rfl,K,I⟩:=h1
 obtain⟨f,r,z,m,A,n,h,E,C,D,c6,G,B,F,rfl,H,J⟩:=h2
 refine(Aq _ _ _ _ s p l c q k d x i a b t j o f r z m A n h E C D c6 G B F W (fun W' g=>qJ (dT n1 m1) (dT n2 m2) _ s p l c q k d f r z m A n h (by rw[fc _ _ c1];decide) W' (fun W2 y=>lR 0 0 n2 n1 m2 m1 l3 l1 f r z m A n h s p l c q k d W2 ((H.kp g).kp y) ((K.kp g).kp y))) (fun W' g=>k9 (dT g1 r1) (dT g2 r2) _ x i a b t j o E C D c6 G B F (ug _ _ c2) W' (fun W2 y=>lR 0 0 g2 g1 r2 r1 l4 l2 E C D c6 G B F x i a b t j o W2 ((J.kp g).kp y) ((I.kp g).kp y)))).mono ?_
 rintro e w' ⟨rfl,g⟩
 exact⟨_,rfl,⟨f,r,z,m,A,n,h,x,i,a,b,t,j,o,rfl,H.kp g,I.kp g⟩,g⟩
theorem yi (n1 g1 n2 g2:Bool)(m1 r1 m2 r2:Nat)(l1:m1<=9218868437227405312)(l2:r1<=9218868437227405312)(l3:m2<=9218868437227405312)(l4:r2<=9218868437227405312)(c1:¬Fq.gU n2 m2<Fq.gU n1 m1)(c2:Fq.gU g1 r1<Fq.gU g2 r2)(W:World)(u v:Value)(h1:SV1 n1 m1 g1 r1 W u)(h2:SV1 n2 m2 g2 r2 W v):Calls prog 100 #[u,v] W fun e w'=>∃v',e=.returned v'∧SV1 n1 m1 g2 r2 w' v'∧Kp W w':=by
 obtain⟨s,p,l,c,q,k,d,E,t,a,b,D,x,B,rfl,I,K⟩:=h1
 obtain⟨o,C,F,z,G,A,r,j,h,i,c6,n,f,m,rfl,J,H⟩:=h2
 refine(Ar _ _ _ _ s p l c q k d E t a b D x B o C F z G A r j h i c6 n f m W (fun W' g=>qK (dT n1 m1) (dT n2 m2) _ s p l c q k d o C F z G A r (uf _ _ c1) W' (fun W2 y=>lR 0 0 n2 n1 m2 m1 l3 l1 o C F z G A r s p l c q k d W2 ((J.kp g).kp y) ((I.kp g).kp y))) (fun W' g=>kZ (dT g1 r1) (dT g2 r2) _ E t a b D x B j h i c6 n f m (by rw[eK _ _ c2];decide) W' (fun W2 y=>lR 0 0 g2 g1 r2 r1 l4 l2 j h i c6 n f m E t a b D x B W2 ((H.kp g).kp y) ((K.kp g).kp y)))).mono ?_
 rintro e w' ⟨rfl,g⟩
 exact⟨_,rfl,⟨s,p,l,c,q,k,d,j,h,i,c6,n,f,m,rfl,I.kp g,H.kp g⟩,g⟩
theorem yj (n1 g1 n2 g2:Bool)(m1 r1 m2 r2:Nat)(l1:m1<=9218868437227405312)(l2:r1<=9218868437227405312)(l3:m2<=9218868437227405312)(l4:r2<=9218868437227405312)(c1:¬Fq.gU n2 m2<Fq.gU n1 m1)(c2:¬Fq.gU g1 r1<Fq.gU g2 r2)(W:World)(u v:Value)(h1:SV1 n1 m1 g1 r1 W u)(h2:SV1 n2 m2 g2 r2 W v):Calls prog 100 #[u,v] W fun e w'=>∃v',e=.returned v'∧SV1 n1 m1 g1 r1 w' v'∧Kp W w':=by
 obtain⟨s,p,l,c,q,k,d,m,f,a,b,j,h,i,rfl,H,I⟩:=h1
 obtain⟨n,D,F,A,G,B,o,z,t,x,c6,E,r,C,rfl,K,J⟩:=h2
 refine(As _ _ _ _ s p l c q k d m f a b j h i n D F A G B o z t x c6 E r C W (fun W' g=>qK (dT n1 m1) (dT n2 m2) _ s p l c q k d n D F A G B o (uf _ _ c1) W' (fun W2 y=>lR 0 0 n2 n1 m2 m1 l3 l1 n D F A G B o s p l c q k d W2 ((K.kp g).kp y) ((H.kp g).kp y))) (fun W' g=>k9 (dT g1 r1) (dT g2 r2) _ m f a b j h i z t x c6 E r C (ug _ _ c2) W' (fun W2 y=>lR 0 0 g2 g1 r2 r1 l4 l2 z t x c6 E r C m f a b j h i W2 ((J.kp g).kp y) ((I.kp g).kp y)))).mono ?_
 rintro e w' ⟨rfl,g⟩
 exact⟨_,rfl,⟨s,p,l,c,q,k,d,m,f,a,b,j,h,i,rfl,H.kp g,I.kp g⟩,g⟩

theorem uR (L H:Int)(d:VdZ L H)(hL:L≠9218868437227405312)(W:World)(v:Value)(h:SV1 (decide (L<0)) L.natAbs (decide (H<0)) H.natAbs W v):Calls prog 99 #[v] W (RT (.agg #[.int .u64 (pI L),.int .u64 (pI H)]) W):=by
 have a:=d
 unfold VdZ at a
 have g:=(Ac (decide (L<0)) (decide (H<0)) L.natAbs H.natAbs (dv L d.lo) (dv H d.hi) (fun h=>af (by omega)) (fun h=>ae (by omega)) W v h)
 have b:=oR L d.lo
 have c:=oR H d.hi
 rw[show Fq.kL (Fq.wD (decide (L<0)) L.natAbs)=pw L from b,show Fq.kL (Fq.wD (decide (H<0)) H.natAbs)=pw H from c]at g
 exact g
theorem jh (a b:Nat)(L H:Int)(r:Rd a b L H)(hL:L≠9218868437227405312)(W:World):Calls prog 47 #[.agg #[.int .u64 ((a:Nat):Int),.int .u64 ((b:Nat):Int)]] W fun e w'=>∃v,e=.returned v∧SV1 (decide (L<0)) L.natAbs (decide (H<0)) H.natAbs w' v∧Kp W w':=by
 have c:Fq.rH a b=true:=by
  rcases c:Fq.rH a b with _|_
  ·exfalso
   have e:=r.2.2.2.1
   have:Fq.th a b=9218868437227405312:=by simp[Fq.th,c]
   rw[this]at e
   have i:=kU L 9218868437227405312 r.vd.lo (by unfold dl;omega)
   rw[nl]at i
   exact hL (i.1 e.symm)
  ·rfl
 exact xo a b r.1 r.2.1 c _ _ _ _ (dv L r.vd.lo) (dv H r.vd.hi) r.2.2.2.1 r.2.2.2.2 W
theorem qu (a b:Nat)(L H:Int)(r:Rd a b L H)(hL:L=9218868437227405312)(W:World):Calls prog 47 #[.agg #[.int .u64 ((a:Nat):Int),.int .u64 ((b:Nat):Int)]] W fun e w'=>∃v,e=.returned v∧rk true v∧Kp W w':=by
 have c:Fq.rH a b=false:=by
  rcases c:Fq.rH a b with _|_
  ·rfl
  ·exfalso
   have e:=r.2.2.2.1
   have d:a≠9218868437227405312:=by intro h;rw[h]at c;simp[Fq.rH]at c
   have:Fq.th a b≠9218868437227405312:=by simp only[Fq.th,c,if_true,Fq.kL];split<;>omega
   rw[e,hL,nl]at this
   exact this rfl
 exact xq a b r.1 r.2.1 c W
theorem sk (L1 H1 L2 H2:Int)(d1:VdZ L1 H1)(d2:VdZ L2 H2):yM L1 H1 L2 H2:=by
 have m:=d1
 have l:=d2
 unfold VdZ at m l
 have c:=Rd.of d1
 have d:=Rd.of d2
 unfold yM
 by_cases a:L1=9218868437227405312
 ·by_cases c2:L2=9218868437227405312
  ·rw[show min L1 L2=9218868437227405312 from by omega,show max H1 H2 = -9218868437227405312 from by omega,lK,mJ]
   exact⟨(fun _ v=>rk true v),(fun _ v=>rk true v),(fun _ v=>rk true v),fun W W' v g h=>h,fun W=>qu _ _ L1 H1 c a W,fun W=>qu _ _ L2 H2 d c2 W,fun W u v h1 h2=>(tT W u v h1 true h2).mono (fun e w' h=>⟨v,h.1,h2,h.2⟩),fun W v h=>Ae W v h⟩
  ·rw[show min L1 L2=L2 from by omega,show max H1 H2=H2 from by omega]
   exact⟨(fun _ v=>rk true v),SV1 (decide (L2<0)) L2.natAbs (decide (H2<0)) H2.natAbs,SV1 (decide (L2<0)) L2.natAbs (decide (H2<0)) H2.natAbs,fun W W' v g h=>h,fun W=>qu _ _ L1 H1 c a W,fun W=>jh _ _ L2 H2 d c2 W,fun W u v h1 h2=>(tT W u v h1 false h2.sv0).mono (fun e w' h=>⟨v,h.1,h2.kp h.2,h.2⟩),fun W v h=>uR L2 H2 d2 c2 W v h⟩
 ·by_cases c2:L2=9218868437227405312
  ·rw[show min L1 L2=L1 from by omega,show max H1 H2=H1 from by omega]
   exact⟨SV1 (decide (L1<0)) L1.natAbs (decide (H1<0)) H1.natAbs,(fun _ v=>rk true v),SV1 (decide (L1<0)) L1.natAbs (decide (H1<0)) H1.natAbs,fun W W' v g h=>h.kp g,fun W=>jh _ _ L1 H1 c a W,fun W=>qu _ _ L2 H2 d c2 W,fun W u v h1 h2=>(Ao W u v h1.sv0 h2).mono (fun e w' h=>⟨u,h.1,h1.kp h.2,h.2⟩),fun W v h=>uR L1 H1 d1 a W v h⟩
  ·have b:=sQ L1 H1 L2 H2 d1 d2
   by_cases k:(L2<L1)∧(H1<H2)
   ·rw[show min L1 L2=L2 from by omega,show max H1 H2=H2 from by omega]at b|-
    exact⟨SV1 (decide (L1<0)) L1.natAbs (decide (H1<0)) H1.natAbs,SV1 (decide (L2<0)) L2.natAbs (decide (H2<0)) H2.natAbs,SV1 (decide (L2<0)) L2.natAbs (decide (H2<0)) H2.natAbs,fun W W' v g h=>h.kp g,fun W=>jh _ _ L1 H1 c a W,fun W=>jh _ _ L2 H2 d c2 W,fun W u v h1 h2=>yf _ _ _ _ _ _ _ _ (dv _ d1.lo) (dv _ d1.hi) (dv _ d2.lo) (dv _ d2.hi) (by rw[dY,dY];exact k.1) (by rw[dY,dY];exact k.2) W u v h1 h2,fun W v h=>uR L2 H2 b (by omega) W v h⟩
   by_cases f:(L2<L1)∧(¬H1<H2)
   ·rw[show min L1 L2=L2 from by omega,show max H1 H2=H1 from by omega]at b|-
    exact⟨SV1 (decide (L1<0)) L1.natAbs (decide (H1<0)) H1.natAbs,SV1 (decide (L2<0)) L2.natAbs (decide (H2<0)) H2.natAbs,SV1 (decide (L2<0)) L2.natAbs (decide (H1<0)) H1.natAbs,fun W W' v g h=>h.kp g,fun W=>jh _ _ L1 H1 c a W,fun W=>jh _ _ L2 H2 d c2 W,fun W u v h1 h2=>yg _ _ _ _ _ _ _ _ (dv _ d1.lo) (dv _ d1.hi) (dv _ d2.lo) (dv _ d2.hi) (by rw[dY,dY];exact f.1) (by rw[dY,dY];exact f.2) W u v h1 h2,fun W v h=>uR L2 H1 b (by omega) W v h⟩
   by_cases j:(¬L2<L1)∧(H1<H2)
   ·rw[show min L1 L2=L1 from by omega,show max H1 H2=H2 from by omega]at b|-
    exact⟨SV1 (decide (L1<0)) L1.natAbs (decide (H1<0)) H1.natAbs,SV1 (decide (L2<0)) L2.natAbs (decide (H2<0)) H2.natAbs,SV1 (decide (L1<0)) L1.natAbs (decide (H2<0)) H2.natAbs,fun W W' v g h=>h.kp g,fun W=>jh _ _ L1 H1 c a W,fun W=>jh _ _ L2 H2 d c2 W,fun W u v h1 h2=>yi _ _ _ _ _ _ _ _ (dv _ d1.lo) (dv _ d1.hi) (dv _ d2.lo) (dv _ d2.hi) (by rw[dY,dY];exact j.1) (by rw[dY,dY];exact j.2) W u v h1 h2,fun W v h=>uR L1 H2 b (by omega) W v h⟩
   by_cases i:(¬L2<L1)∧(¬H1<H2)
   ·rw[show min L1 L2=L1 from by omega,show max H1 H2=H1 from by omega]at b|-
    exact⟨SV1 (decide (L1<0)) L1.natAbs (decide (H1<0)) H1.natAbs,SV1 (decide (L2<0)) L2.natAbs (decide (H2<0)) H2.natAbs,SV1 (decide (L1<0)) L1.natAbs (decide (H1<0)) H1.natAbs,fun W W' v g h=>h.kp g,fun W=>jh _ _ L1 H1 c a W,fun W=>jh _ _ L2 H2 d c2 W,fun W u v h1 h2=>yj _ _ _ _ _ _ _ _ (dv _ d1.lo) (dv _ d1.hi) (dv _ d2.lo) (dv _ d2.hi) (by rw[dY,dY];exact i.1) (by rw[dY,dY];exact i.2) W u v h1 h2,fun W v h=>uR L1 H1 b (by omega) W v h⟩
   exfalso;omega
theorem Al (X R:Nat)(V:Bool)(h1:SC 153 #[.float .f64 X] (.float .f64 R))(t:(FloatKind.f64.format.order R 9218868437227405311 == some Ordering.gt)=V)(w:World):Calls prog 109 #[.float .f64 X,.int .i64 0] w (RE (.bool V) w):=by
 go_enter func109,ntmps109
 go_wp2_with (first|(go_at_call 153;refine SM (h1 _) ?_))
 exact BR ⟨rfl,rfl⟩ (by simp[results,results109,go_sem]<;>simpa using t)
theorem Am (n:Bool)(m:Nat)(hm:m<=9218868437227405312)(w:World):Calls prog 109 #[.float .f64 (Fq.wD n m),.int .i64 0] w (RE (.bool (decide (m=9218868437227405312))) w):=by
 have t:=GT false false m 9218868437227405311 (by omega) (by decide)
 rw[show Fq.wD false m=m from rfl,show Fq.wD false 9218868437227405311=9218868437227405311 from rfl,show decide (m<=9218868437227405312∧9218868437227405311<=9218868437227405312∧Fq.gU false 9218868437227405311<Fq.gU false m)=decide (m=9218868437227405312)from by congr 1;apply propext;unfold Fq.gU;simp;omega]at t
 exact Al _ m _ (AQ n m (by omega)) t w
theorem Ak (x:Int)(h:dl x)(w:World):Calls prog 109 #[.float .f64 (pw x),.int .i64 0] w (RE (.bool (decide (x=9218868437227405312∨x = -9218868437227405312))) w):=by
 have g:=Am (decide (x<0)) x.natAbs (dv x h) w
 rw[show decide (x.natAbs=9218868437227405312)=decide (x=9218868437227405312∨x = -9218868437227405312)from by congr 1;apply propext;omega]at g
 exact g
theorem xA (v a b L H:Nat)(hx:KC 38 #[.agg #[.float .f64 a,.float .f64 b]] (.agg #[.float .f64 L,.float .f64 H]))(E1 E2 E3:Bool)(i1:SC 109 #[.float .f64 v,.int .i64 0] (.bool E1))(t1:(FloatKind.f64.format.order L v == some Ordering.lt || FloatKind.f64.format.order L v == some Ordering.eq)=E2)(t2:(FloatKind.f64.format.order v H == some Ordering.lt || FloatKind.f64.format.order v H == some Ordering.eq)=E3)(w:World):Calls prog 52 #[.float .f64 v,.agg #[.float .f64 a,.float .f64 b]] w (RT (.bool (!E1 && (E2 && E3))) w):=by
 cases E1<;>cases E2<;>cases E3
 all_goals (
  go_enter func52,ntmps52
  go_wp2_with (first|(go_at_call 38;refine(hx _).mono ?_;rintro e g ⟨rfl,d⟩;have j:Kp w g:=Kp.trans ((Kp.refl w).alloc _) d;have f:=Fq.H2.keep (Fq.H2.new w (.float .f64 a) (.float .f64 b) 29) d;obtain⟨x0,k,l,h⟩:=id f)|(go_at_call 109;refine(i1 _).mono ?_;rintro e i ⟨rfl,c⟩;obtain rfl:=c.symm;clear c))
  exact BR (v:=.bool _) ⟨rfl,(by repeat(with_reducible(first|assumption|(refine Kp.setCell ?_ (by (simp<;>omega)) _))))⟩)

def IF (w:World)(b:Nat)(v0 v1 v2 v3:Value):Prop:=w.cell? ⟨b,0,none⟩=some v0∧w.cell? ⟨b,1,none⟩=some v1∧w.cell? ⟨b,2,none⟩=some v2∧w.cell? ⟨b,3,none⟩=some v3∧w.frozen? ⟨b,0,none⟩=false∧w.frozen? ⟨b,1,none⟩=false∧w.frozen? ⟨b,2,none⟩=false∧w.frozen? ⟨b,3,none⟩=false
set_option linter.all false
theorem sE (x D a b:Nat)(hD:D≠0)(hF:fJ x D 0 a b):a*D=x*b:=by
 have s:=hF.1
 by_cases j:x=0
 ·rw[hF.2.1.2 j,j,aM,aM]
 ·have g:∀t:Nat,a*2^t/b=x*2^t/D:=fun t=>by
   have h:=hF.2.2.1 (-1) (aq (a*2^t/b)+aq (x*2^t/D)) (t:Int) j
   unfold rV at h
   rw[show((t:Int)).toNat=t from by omega,show(-(t:Int)).toNat=0 from by omega,show((t:Int)+0).toNat=t from by omega,show(-((t:Int)+0)).toNat=0 from by omega,aB,aG,aG,kj _ _ _ (by omega),kj _ _ _ (by omega)]at h
   exact h
  obtain⟨t,u⟩:∃t,b*D<2^t:=⟨b*D,Nat.lt_two_pow_self⟩
  have h:=g t
  obtain⟨f,d⟩:=aA (a*2^t/b)
  have m:f*b<=a*2^t:=by rw[d];exact dS _ _
  have n:a*2^t<(f+1)*b:=by rw[d];exact Nat.lt_mul_of_div_lt (Nat.lt_succ_self _) (by omega)
  have k:f*D<=x*2^t:=by rw[d,h];exact dS _ _
  have r:x*2^t<(f+1)*D:=by rw[d,h];exact Nat.lt_mul_of_div_lt (Nat.lt_succ_self _) (by omega)
  have l:=ai D m
  have q:=am n (show 0<D by omega)
  have o:=ai b k
  have p:=am r (show 0<b by omega)
  rw[show f*b*D=f*(b*D)from ak _ _ _,show a*2^t*D=a*D*2^t from bG _ _ _]at l
  rw[show(f+1)*b*D=f*(b*D)+b*D from by rw[ak,aH,aN],show a*2^t*D=a*D*2^t from bG _ _ _]at q
  rw[show f*D*b=f*(b*D)from by rw[ak,ap D b],show x*2^t*b=x*b*2^t from bG _ _ _]at o
  rw[show(f+1)*D*b=f*(b*D)+b*D from by rw[ak,ap D b,aH,aN],show x*2^t*b=x*b*2^t from bG _ _ _]at p
  rcases Nat.lt_trichotomy (a*D) (x*b)with c|c|c
  ·exfalso
   have i:=ai (2^t) (show a*D+1<=x*b from c)
   rw[aH,aN]at i
   omega
  ·exact c
  ·exfalso
   have i:=ai (2^t) (show x*b+1<=a*D from c)
   rw[aH,aN]at i
   omega

def XF (s:Bool)(a b:Nat)(V:Int)(C N:Nat):Prop:=b≠0∧C≠0∧fC s a*(C:Int)=V*(b:Int)∧aq a<=N∧aq b<=N
def XP (base:Nat)(w:World)(s:Bool)(p:Option Addr)(l c:Nat)(q:Option Addr)(k d:Nat)(V:Int)(C N:Nat):Prop:=∃a b,Own w base (.slice p l c) (az a)∧Own w base (.slice q k d) (az b)∧XF s a b V C N
theorem XP.kp {base:Nat}{w:World}{s:Bool}{p:Option Addr}{l c:Nat}{q:Option Addr}{k d:Nat}{V:Int}{C N:Nat}{w':World}(h:XP base w s p l c q k d V C N)(g:Kp w w'):XP base w' s p l c q k d V C N:=by
 obtain⟨a,b,f,j,i⟩:=h
 exact⟨a,b,f.kp g,j.kp g,i⟩
theorem XP.mono {base:Nat}{w:World}{s:Bool}{p:Option Addr}{l c:Nat}{q:Option Addr}{k d:Nat}{V:Int}{C N:Nat}{base':Nat}(h:XP base w s p l c q k d V C N)(g:base'<=base):XP base' w s p l c q k d V C N:=by
 obtain⟨a,b,f,j,i⟩:=h
 exact⟨a,b,f.mono g,j.mono g,i⟩
theorem XP.as {base:Nat}{w:World}{s:Bool}{p:Option Addr}{l c:Nat}{q:Option Addr}{k d:Nat}{V:Int}{C N:Nat}(h:XP base w s p l c q k d V C N)(V2:Int)(C2 N2:Nat)(hc:C2≠0)(e:V*(C2:Int)=V2*(C:Int))(hN:N<=N2):XP base w s p l c q k d V2 C2 N2:=by
 obtain⟨a,b,m,g,i,o,f,t,r⟩:=h
 refine⟨a,b,m,g,i,hc, ?_,by omega,by omega⟩
 refine dQ (show(C:Int)≠0 by omega) ?_
 have n:fC s a*(C2:Int)*(C:Int)=fC s a*(C:Int)*(C2:Int):=by ac_rfl
 have j:V2*(b:Int)*(C:Int)=V2*(C:Int)*(b:Int):=by ac_rfl
 rw[n,f,j,<-e];ac_rfl
theorem RP.xp {base:Nat}{w:World}{s:Bool}{p:Option Addr}{l c:Nat}{q:Option Addr}{k d:Nat}{n:Bool}{m:Nat}(h:RP base w s p l c q k d n m)(K:Nat)(hK:K=1074):XP base w s p l c q k d (Iv n m) (2^K) 1500:=by
 obtain⟨a,b,r,g,u⟩:=h
 obtain⟨i,j,f,t,o⟩:=u K hK
 refine⟨a,b,r,g,i,by have:=ah K;omega, ?_,t,o⟩
 have e:(a:Int)*((2^K:Nat):Int)=((Fq.vV Ieee.double m:Nat):Int)*(b:Int):=by rw[<-aK,j,aK]
 rw[f];unfold fC
 cases s
 ·rw[if_neg (by decide),if_neg (by decide)];exact e
 ·rw[if_pos rfl,if_pos rfl,bF,e,bF]
theorem sY (s:Bool)(a b:Nat):fC s (a*b)=fC s a*(b:Int):=by
 unfold fC;cases s
 ·rw[if_neg (by decide),if_neg (by decide),aK]
 ·rw[if_pos rfl,if_pos rfl,aK,bF]
theorem DK (x D a' b':Nat)(ng neg:Bool)(hD:D≠0)(hF:fJ x D 0 a' b')(hn:x≠0->ng=neg):fC ng a'*(D:Int)=fC neg x*(b':Int):=by
 have h:=sE x D a' b' hD hF
 by_cases z:x=0
 ·have a:=hF.2.1.2 z
  rw[z,a];unfold fC;simp
 ·rw[hn z,<-sY,<-sY,h]
theorem nX (u v N1 N2:Nat)(h1:aq u<=N1)(h2:aq v<=N2):aq (u*v)<=N1+N2:=by
 rw[ay,ag]
 exact Nat.mul_lt_mul'' ((ay u N1).1 h1) ((ay v N2).1 h2)
theorem AX (B1 B2:Nat)(V V':Int)(C C' N N':Nat)(hN:N<=200000)(hN':N'<=200000) s p l c q k d s2 p2 l2 c2 q2 k2 d2 (w:World)(h1:XP B1 w s p l c q k d V C N)(h2:XP B2 w s2 p2 l2 c2 q2 k2 d2 V' C' N'):Calls prog 77 #[.agg #[.bool s,.slice p l c,.slice q k d],.agg #[.bool s2,.slice p2 l2 c2,.slice q2 k2 d2]] w (RT (.int .i64 (eh (V*(C':Int)) (V'*(C:Int)))) w):=by
 obtain⟨a,b,B,D,E,zc,r,G,H⟩:=h1
 obtain⟨x,y,j,f,o,g,n,F,I⟩:=h2
 have h:=wK s p l c q k d s2 p2 l2 c2 q2 k2 d2 a b x y B1 B2 w B D j f E o (by omega) (by omega) (by omega) (by omega)
 have e:eh (fC s a*(y:Int)) (fC s2 x*(b:Int))=eh (V*(C':Int)) (V'*(C:Int)):=by
  have z:(0:Int)<(C:Int)*(C':Int):=dj (by omega) (by omega)
  have u:(0:Int)<(b:Int)*(y:Int):=dj (by omega) (by omega)
  rw[<-gW _ _ _ z,<-gW (V*(C':Int)) (V'*(C:Int)) _ u]
  have i:fC s a*(y:Int)*((C:Int)*(C':Int))=fC s a*(C:Int)*((y:Int)*(C':Int)):=by ac_rfl
  have m:fC s2 x*(b:Int)*((C:Int)*(C':Int))=fC s2 x*(C':Int)*((b:Int)*(C:Int)):=by ac_rfl
  rw[i,m,r,n]
  have t:V*(b:Int)*((y:Int)*(C':Int))=V*(C':Int)*((b:Int)*(y:Int)):=by ac_rfl
  have A:V'*(y:Int)*((b:Int)*(C:Int))=V'*(C:Int)*((b:Int)*(y:Int)):=by ac_rfl
  rw[t,A]
 rw[e]at h
 exact h
theorem XF.quo (s s' ng:Bool)(a1 a2 b1 b2 a' b':Nat)(V:Int)(U:Nat)(t:Bool)(C C' N N' M:Nat)(h1:XF s a1 a2 V C N)(h2:XF s' b1 b2 (fC t U) C' N')(hU:U≠0)(hb:b'≠0)(h:fC ng a'*((a2:Int)*(b1:Int))=fC (s ^^ s') (a1*b2)*(b':Int))(m1:aq a'<=M)(m2:aq b'<=M):XF ng a' b' (fC t 1*V*(C':Int)) (C*U) M:=by
 obtain⟨p,zc,n,-,-⟩:=h1
 obtain⟨u,i,f,-,-⟩:=h2
 have b:(0:Int)<(U:Int):=by omega
 have g:(0:Int)<(C':Int):=by omega
 have c:(0:Int)<(b2:Int):=by omega
 have q:(0:Int)<(U:Int)*(b2:Int):=dj b c
 have d:s'=t∧(b1:Int)*(C':Int)=(U:Int)*(b2:Int):=by
  have r:(0:Int)<=(b1:Int)*(C':Int):=b8 (by omega) (by omega)
  unfold fC at f
  cases s'<;>cases t<;>simp[bF]at f|-<;>omega
 obtain⟨rfl,a⟩:=d
 have m:(0:Int)<(b1:Int):=by
  rcases bS b1 with z|z
  ·rw[z]at a;simp at a;omega
  ·omega
 refine⟨hb,fF zc hU, ?_,m1,m2⟩
 have j:(a2:Int)*(b1:Int)≠0:=by have:(0:Int)<(a2:Int)*(b1:Int):=dj (by omega) (by omega);omega
 refine dQ j ?_
 refine dQ (show(b2:Int)≠0 by omega) ?_
 rw[aK]
 have l:fC (s ^^ s') (a1*b2)=fC s' 1*(fC s a1*(b2:Int)):=by unfold fC;cases s<;>cases s'<;>simp[bF]
 have o:fC ng a'*((C:Int)*(U:Int))*((a2:Int)*(b1:Int))*(b2:Int)=fC ng a'*((a2:Int)*(b1:Int))*((C:Int)*((U:Int)*(b2:Int))):=by ac_rfl
 rw[o,h,<-a,l]
 have k:fC s' 1*(fC s a1*(b2:Int))*(b':Int)*((C:Int)*((b1:Int)*(C':Int)))=(fC s a1*(C:Int))*(fC s' 1*(b2:Int)*(b':Int)*(b1:Int)*(C':Int)):=by ac_rfl
 rw[k,n];ac_rfl

end Go.Proofs.YtmpjcknaelgnoaaGreatDoor
