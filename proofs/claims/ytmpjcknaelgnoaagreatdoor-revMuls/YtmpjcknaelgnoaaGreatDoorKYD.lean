import Derived.Test.YtmpjcknaelgnoaaGreatDoorKU2
set_option maxHeartbeats 1000000
set_option maxRecDepth 20000
namespace Go.Proofs.YtmpjcknaelgnoaaGreatDoor
set_option linter.all false
open Go.RowKit Tryz
theorem CV (d:Int)(n n':Bool)(m m':Nat)(c1:2580562586483294208<=m∧m<=6633802251116740608)(c2:2580562586483294208<=m'∧m'<=6633802251116740608)(w:World) :
  Calls prog 195 #[.int .i64 d,.float .f64 (Fq.wD n m),.float .f64 (Fq.wD n' m')] w (RT (.float .f64 (iO d (n ^^ n') (Fq.vV Ieee.double m) (Fq.vV Ieee.double m'))) w):=by
 have h:=ix n m (by omega) w
 have b:=ix n' m' (by omega) w
 rw[af c1]at h
 rw[af c2]at b
 obtain⟨V,s,o,r,A,K,i,u,z,x,q,p,E,t,B,y,a⟩:=ou n n' m m' c1 c2
 have c:=nA d V s o (n ^^ n') r A K t B y u z x q p E
 rw[a d]at c
 obtain⟨X,f⟩:=aA (Fq.wD n m)
 obtain⟨Y,g⟩:=aA (Fq.wD n' m')
 obtain⟨Z,k⟩:=aA (iO d (n ^^ n') (Fq.vV Ieee.double m) (Fq.vV Ieee.double m'))
 obtain⟨N,j⟩:=aA (Fq.wD s r)
 obtain⟨O,l⟩:=aA (Fq.wD o A)
 rw[<-f]at h
 rw[<-g]at b
 rw[<-f,<-g,<-j,<-l]at i
 rw[<-j,<-l,<-k]at c
 rw[<-f,<-g,<-k]
 clear f g k j l c1 c2 u z x q p E t B y a
 go_enter func195,ntmps195
 go_wp2
 refine wp_scope_straight ?_
 go_wp2_with fail
 refine SM h ?_;clear h
 go_wp2_with fail
 refine SM b ?_;clear b
 have D:=i w
 clear i
 go_wp2_with fail
 refine SM D ?_;clear D
 have C:=c w
 clear c
 go_wp2_with fail
 refine C.mono ?_;rintro e G ⟨rfl,F⟩
 clear C
 go_wp2
 try rw[Exit.noGoto_ret]
 exact BR ⟨rfl,F⟩
set_option maxHeartbeats 20000000 in
theorem jv:(∀(d:Int)(n n':Bool)(m m':Nat)(hm:m<9218868437227405312)(hm':m'<9218868437227405312)(z:m≠0)(z':m'≠0)(ct:¬((2580562586483294208<=m∧m<=6633802251116740608)∧(2580562586483294208<=m'∧m'<=6633802251116740608)))(w:World)(hQ:Fq.Tab w)(hd1:-9223372036854775808<=d)(hd2:d<9223372036854775808),Calls prog 195 #[.int .i64 d,.float .f64 (Fq.wD n m),.float .f64 (Fq.wD n' m')] w (RT (.float .f64 (iO d (n ^^ n') (Fq.vV Ieee.double m) (Fq.vV Ieee.double m'))) w))∧(∀(d:Int)(n n':Bool)(m m':Nat)(hm:m<9223372036854775808)(hm':m'<9223372036854775808)(z':m'≠0)(hi:¬(m<9218868437227405312∧m'<9218868437227405312∧m≠0))(w w9:World)(RR R2:Nat)(hrun:(binOp .quo 27 (.float .f64 (Fq.wD n m)) (.float .f64 (Fq.wD n' m'))).run prog w=.ok (.float .f64 RR) w9)(hk:Kp w w9)(hpl:Calls prog 193 #[.float .f64 RR] w9 (RE (.float .f64 R2) w9)),Calls prog 195 #[.int .i64 d,.float .f64 (Fq.wD n m),.float .f64 (Fq.wD n' m')] w (RT (.float .f64 R2) w))∧(∀(d:Int)(n n':Bool)(m:Nat)(hm:m<9223372036854775808)(w:World),Calls prog 195 #[.int .i64 d,.float .f64 (Fq.wD n m),.float .f64 (Fq.wD n' 0)] w (fun e w'=>e=.returned (.float .f64 (if m=0∨9218868437227405312<m then 9221120237041090561 else Fq.wD n 9218868437227405312))∧Kp w w')):=by
 refine⟨?_,?_,?_⟩
 case' refine_1=>intro d n n' m m' hm hm' z z' ct w hQ hd1 hd2;have y:=trivial
 case' refine_2=>intro d n n' m m' hm hm' z' hi w w9 RR R2 hrun hk hpl;have x:=trivial
 case' refine_3=>intro d n n' m hm w;have A:=trivial
 all_goals (
  first
  |(
    have g:=y;clear g
    have f:=ix n m (by omega) w
    have j:=ix n' m' (by omega) w
    have l:=fO n m (by omega) w
    have o:=fO n' m' (by omega) w
    rw[af hm]at l
    rw[af hm']at o
    have u:=Fq.GZ n m (by omega)
    have r:=Fq.GZ n' m' (by omega)
    rw[show(m == 0)=false from by simp[z]]at u
    rw[show(m' == 0)=false from by simp[z']]at r)
  |(
    have g:=x;clear g
    have f:=ix n m hm w
    have j:=ix n' m' hm' w
    have l:=fO n m hm w
    have o:=fO n' m' hm' w
    have u:=Fq.GZ n m hm
    have r:=Fq.GZ n' m' hm'
    rw[show(m' == 0)=false from by simp[z']]at r)
  |(
    have g:=A;clear g
    obtain⟨m',F⟩:∃m':Nat,m'=0:=⟨_,rfl⟩
    have f:=ix n m hm w
    have j:=ix n' m' (by omega) w
    have r:=Fq.GZ n' m' (by omega)
    rw[show(m' == 0)=true from by simp[F]]at r
    have M:=vx n m hm w
    obtain⟨R,hR⟩:=aA (if m=0∨9218868437227405312<m then 9221120237041090561 else Fq.wD n 9218868437227405312)
    rw[<-hR,<-F])
  obtain⟨X,s⟩:=aA (Fq.wD n m)
  obtain⟨Y,t⟩:=aA (Fq.wD n' m')
  first
  |(
    have g:=y;clear g
    obtain⟨Z,hZ⟩:=aA (iO d (n ^^ n') (Fq.vV Ieee.double m) (Fq.vV Ieee.double m'))
    obtain⟨a,ea,a1,a2,a3,a4,ta⟩:=mx n m hm
    obtain⟨b,eb,b1,b2,b3,b4,tb⟩:=mx n' m' hm'
    rw[show(n && !(m == 0))=n from by simp[z]]at ta
    rw[show(n' && !(m' == 0))=n' from by simp[z']]at tb
    have la:aS a<=16384:=dZ a 16384 (by
     have:aq a<=53:=by rw[ay,show(2:Nat)^53=9007199254740992 from by decide];exact a4
     omega)
    have lb:aS b<=16384:=dZ b 16384 (by
     have:aq b<=53:=by rw[ay,show(2:Nat)^53=9007199254740992 from by decide];exact b4
     omega)
    have za:a≠0:=fun h=>by rw[h,aM]at a1;exact z ((gj m).1 a1.symm)
    have zb:b≠0:=fun h=>by rw[h,aM]at b1;exact z' ((gj m').1 b1.symm)
    have an:ni d (n ^^ n') a b (ea-eb)=Z:=by
     rw[hZ,<-a1,<-b1]
     exact zq d (n ^^ n') a b _ _ ea eb za zb la lb (by omega) (by omega)
    have hp:∀(G H:Value)(q:World),Kp w q->Ls q G (az a)->Ls q H (az b)->Calls prog 226 #[.agg #[.bool n,G,.int .i64 ea],.int .i64 d,.agg #[.bool n',H,.int .i64 eb]] q (RT (.float .f64 Z) q):=fun G H q k l1 l2=>by
     rw[<-an];exact Iw d n n' a b ea eb G H q (Fq.Tab.grown hQ k) hd1 hd2 l1 l2 la lb a2 a3 b2 b3
    rw[<-s]at f l ta u
    rw[<-t]at j o tb r
    rw[<-s,<-t,<-hZ]
    have D:=ta w hQ
    have E:=fun q (k:Kp w q)=>tb q (Fq.Tab.grown hQ k)
    have p:Hid (2580562586483294208<=m∧m<=6633802251116740608->¬(2580562586483294208<=m'∧m'<=6633802251116740608)):=fun h h'=>ct ⟨h,h'⟩
    clear s t hZ an la lb za zb a1 a2 a3 a4 b1 b2 b3 b4 ta tb hQ hd1 hd2 ct hm hm' z z')
  |(
    have g:=x;clear g
    rw[<-s]at f l u
    rw[<-t]at j o r
    rw[<-s,<-t]at hrun
    rw[<-s,<-t]
    have p:Hid (2580562586483294208<=m∧m<=6633802251116740608->¬(2580562586483294208<=m'∧m'<=6633802251116740608)):=fun h h'=>hi ⟨by omega,by omega,by omega⟩
    have HI:Hid (¬(m<9218868437227405312∧m'<9218868437227405312∧m≠0)):=hi
    clear s t hi hm hm' z')
  |(
    have g:=A;clear g
    rw[<-s]at f M
    rw[<-t]at j r
    rw[<-hR]at M
    rw[<-s,<-t]
    have p:Hid (2580562586483294208<=m∧m<=6633802251116740608->¬(2580562586483294208<=m'∧m'<=6633802251116740608)):=fun h h'=>by omega
    clear s t hR hm F)
  go_enter func195,ntmps195
  go_wp2
  refine wp_scope_jumps 0 (fun a' w'=>w'=w∧∃u3 u4 u5 u6 u7 u8 u9 ad a8 bv bn bA bo bE bm U J T a6 bB P a9 I bq bl W a0 bf b0 bc bx br a5 ar aw bb bH bp bX O Q au N ba b5 L K bL V bt aj bR:Value,a'=⟨#[.int .i64 d,.float .f64 X,.float .f64 Y,u3,u4,u5,u6,u7,u8,u9,ad,a8,bv,bn,bA,bo,bE,bm,U,J,T,a6,bB,P,a9,I,bq,bl,W,a0,bf,b0,bc,bx,br,a5,ar,aw,bb,bH,bp,bX,O,Q,au,N,ba,b5,L,K,bL,V,bt,aj,bR],[]⟩) (fun _ _=>0) rfl ?_ ?_
  first
  |(
    have g:=y;clear g
    ·clear l o D E hp u r
     by_cases i:2580562586483294208<=m∧m<=6633802251116740608
     ·rw[af i]at f
      rw[ae (p.out i)]at j
      clear i p
      go_wp2_with fail
      refine SM f ?_;clear f
      go_wp2_with fail
      refine SM j ?_;clear j
      go_wp2_with fail
      go_step3
      exact⟨rfl,rfl,_,_,_,_,_,_,_,_,_,_,_,_,_,_,_,_,_,_,_,_,_,_,_,_,_,_,_,_,_,_,_,_,_,_,_,_,_,_,_,_,_,_,_,_,_,_,_,_,_,_,_,_,rfl⟩
     ·rw[ae i]at f
      clear i p j
      go_wp2_with fail
      refine SM f ?_;clear f
      go_wp2_with fail
      go_step3
      exact⟨rfl,rfl,_,_,_,_,_,_,_,_,_,_,_,_,_,_,_,_,_,_,_,_,_,_,_,_,_,_,_,_,_,_,_,_,_,_,_,_,_,_,_,_,_,_,_,_,_,_,_,_,_,_,_,_,rfl⟩)
  |(
    have g:=x;clear g
    ·clear l o u r hrun hpl HI
     by_cases i:2580562586483294208<=m∧m<=6633802251116740608
     ·rw[af i]at f
      rw[ae (p.out i)]at j
      clear i p
      go_wp2_with fail
      refine SM f ?_;clear f
      go_wp2_with fail
      refine SM j ?_;clear j
      go_wp2_with fail
      go_step3
      exact⟨rfl,rfl,_,_,_,_,_,_,_,_,_,_,_,_,_,_,_,_,_,_,_,_,_,_,_,_,_,_,_,_,_,_,_,_,_,_,_,_,_,_,_,_,_,_,_,_,_,_,_,_,_,_,_,_,rfl⟩
     ·rw[ae i]at f
      clear i p j
      go_wp2_with fail
      refine SM f ?_;clear f
      go_wp2_with fail
      go_step3
      exact⟨rfl,rfl,_,_,_,_,_,_,_,_,_,_,_,_,_,_,_,_,_,_,_,_,_,_,_,_,_,_,_,_,_,_,_,_,_,_,_,_,_,_,_,_,_,_,_,_,_,_,_,_,_,_,_,_,rfl⟩)
  |(
    have g:=A;clear g
    ·clear r M
     by_cases i:2580562586483294208<=m∧m<=6633802251116740608
     ·rw[af i]at f
      rw[ae (p.out i)]at j
      clear i p
      go_wp2_with fail
      refine SM f ?_;clear f
      go_wp2_with fail
      refine SM j ?_;clear j
      go_wp2_with fail
      go_step3
      exact⟨rfl,rfl,_,_,_,_,_,_,_,_,_,_,_,_,_,_,_,_,_,_,_,_,_,_,_,_,_,_,_,_,_,_,_,_,_,_,_,_,_,_,_,_,_,_,_,_,_,_,_,_,_,_,_,_,rfl⟩
     ·rw[ae i]at f
      clear i p j
      go_wp2_with fail
      refine SM f ?_;clear f
      go_wp2_with fail
      go_step3
      exact⟨rfl,rfl,_,_,_,_,_,_,_,_,_,_,_,_,_,_,_,_,_,_,_,_,_,_,_,_,_,_,_,_,_,_,_,_,_,_,_,_,_,_,_,_,_,_,_,_,_,_,_,_,_,_,_,_,rfl⟩)
  ·rintro a' w' ⟨rfl,u3,u4,u5,u6,u7,u8,u9,ad,a8,bv,bn,bA,bo,bE,bm,U,J,T,a6,bB,P,a9,I,bq,bl,W,a0,bf,b0,bc,bx,br,a5,ar,aw,bb,bH,bp,bX,O,Q,au,N,ba,b5,L,K,bL,V,bt,aj,bR,rfl⟩
   clear f j p
   first
   |(
     have g:=y;clear g
     go_wp2_with fail
     refine l.mono ?_;rintro e w9 ⟨rfl,c⟩;obtain rfl:=c.symm;clear c l
     go_wp2_with fail
     refine o.mono ?_;rintro e w9 ⟨rfl,c⟩;obtain rfl:=c.symm;clear c o
     go_wp2_with fail
     refine D.mono ?_;rintro e q ⟨G,rfl,S,k1⟩
     have bu:=E q k1
     clear D E
     go_wp2_with fail
     refine bu.mono ?_;rintro e w2 ⟨H,rfl,aa,k2⟩
     have C:=k1.trans k2
     have a7:=hp G H w2 C (S.kp k2) aa
     clear bu hp S aa k1 k2
     go_wp2_with fail
     refine a7.mono ?_;rintro e w3 ⟨rfl,k3⟩
     have cf:=C.trans k3
     clear a7 C k3
     go_wp2
     try simp only[Exit.jump]
     exact BR ⟨rfl,cf⟩)
   |(
     have g:=x;clear g
     by_cases i:m<9218868437227405312
     ·rw[af i]at l
      by_cases c2:m'<9218868437227405312
      ·rw[af c2]at o
       have c3:m=0:=by have:=HI.out;omega
       rw[show(m == 0)=true from by simp[c3]]at u
       clear i c2 c3 HI
       go_wp2_with fail
       refine l.mono ?_;rintro e B ⟨rfl,c⟩;obtain rfl:=c.symm;clear c l
       go_wp2_with fail
       refine o.mono ?_;rintro e B ⟨rfl,c⟩;obtain rfl:=c.symm;clear c o
       go_wp2_with fail
       refine hpl.mono ?_;rintro e B ⟨rfl,c⟩;obtain rfl:=c.symm;clear c hpl
       go_wp2
       try simp only[Exit.jump]
       exact BR ⟨rfl,hk⟩
      ·rw[ae c2]at o
       clear i c2 HI u
       go_wp2_with fail
       refine l.mono ?_;rintro e B ⟨rfl,c⟩;obtain rfl:=c.symm;clear c l
       go_wp2_with fail
       refine o.mono ?_;rintro e B ⟨rfl,c⟩;obtain rfl:=c.symm;clear c o
       go_wp2_with fail
       refine hpl.mono ?_;rintro e B ⟨rfl,c⟩;obtain rfl:=c.symm;clear c hpl
       go_wp2
       try simp only[Exit.jump]
       exact BR ⟨rfl,hk⟩
     ·rw[ae i]at l
      clear i HI u o
      go_wp2_with fail
      refine l.mono ?_;rintro e B ⟨rfl,c⟩;obtain rfl:=c.symm;clear c l
      go_wp2_with fail
      refine hpl.mono ?_;rintro e B ⟨rfl,c⟩;obtain rfl:=c.symm;clear c hpl
      go_wp2
      try simp only[Exit.jump]
      exact BR ⟨rfl,hk⟩)
   |(
     have g:=A;clear g
     go_wp2_with fail
     refine M.mono ?_;rintro e B ⟨rfl,c⟩;obtain rfl:=c.symm;clear c M
     go_wp2
     try simp only[Exit.jump]
     exact BR ⟨rfl,Kp.refl _⟩))
theorem GN (E:Int)(s o sz:Bool)(r ro K:Nat)(hK:53<=K)(hK2:K<=2096)(hv:E.natAbs<2^K)(hr1:r<9218868437227405312)(hro:ro<9218868437227405312)(hr:r=fk 53 (rU 0 53 E.natAbs 1))(hs:s=(if E=0 then sz else decide (E<0)))(ho:Iv o ro=E-Iv s r) :
  ∃(tn:Bool)(tr:Nat),tr<9218868437227405312∧(∀w:World,Calls prog 234 #[.float .f64 (Fq.wD s r),.float .f64 (Fq.wD o ro)] w (RT (.float .f64 (Fq.wD tn tr)) w))∧(Iv tn tr=E∨(¬FL E∧∃b k:Nat,k%2=1∧4503599627370496*2^b<=E.natAbs∧(Iv tn tr=((k*2^b:Nat):Int)∨Iv tn tr = -((k*2^b:Nat):Int))∧(E-Iv tn tr).natAbs<2^b)):=by
 have C:=Fq.GZ o ro (by omega)
 by_cases y:FL E
 ·obtain⟨s9,Z,T9,_,_,F,Q,z,_⟩:=fp E sz K hK (by omega) hv
  rw[show s9=s from z.trans hs.symm,show Z=r from Q.trans hr.symm]at F
  have i:=F.fix y
  have u:ro=0:=by
   have Y:Iv o ro=0:=by omega
   have:=gg o ro
   rw[Y]at this
   exact(gj ro).1 this.symm
  refine⟨s,r,hr1,fun w=>?_,Or.inl i⟩
  rw[show(ro == 0)=true from by simp[u]]at C
  obtain⟨N,l⟩:=aA (Fq.wD s r)
  obtain⟨O,m⟩:=aA (Fq.wD o ro)
  rw[<-m]at C
  rw[<-l,<-m]
  clear l m u i F Q z y hv hr hs ho hK hK2 hr1 hro
  go_enter func234,ntmps234
  go_wp2
  exact BR ⟨rfl,Kp.refl _⟩
 ·obtain⟨tn,tr,b,k,U,I,R,L,T,t,x,p,n⟩:=uM E s o sz r ro K hK hK2 hv hr hs ho y
  refine⟨tn,tr,U,fun w=>?_,Or.inr ⟨y,b,k,I,R, ?_,T⟩⟩
  ·have u:ro≠0:=fun h=>t (by rw[h];unfold Fq.gU;cases o<;>rfl)
   rw[show(ro == 0)=false from by simp[u]]at C
   have q:(0:Nat)=Fq.wD false 0:=rfl
   have a:FloatKind.f64.format.order (Fq.wD o ro) 0=some (compare (Fq.gU o ro) 0):=by
    rw[q,Fq.CY o false ro 0 (by omega) (by decide)];rfl
   have g:=fun h=>Fq.H4 s r (by omega) h w
   have f:=fun h=>Fq.Is s r (by omega) h w
   have d:(Fq.wD s r)%2=r%2:=by unfold Fq.wD;split<;>omega
   obtain⟨N,l⟩:=aA (Fq.wD s r)
   obtain⟨O,m⟩:=aA (Fq.wD o ro)
   obtain⟨G,D⟩:=aA (Fq.wD tn tr)
   obtain⟨P,J⟩:=aA (Fq.gU o ro)
   have W:=Fq.GX N
   rw[<-l,<-D]at x
   rw[<-D]at p n
   rw[<-J]at p n a t
   rw[<-m]at C a
   rw[<-l]at g f d
   rw[<-l,<-m,<-D]
   clear l m D J u q y hv hr hs ho hK hK2 hr1 hro I R L T U
   by_cases c:r%2=1
   ·have e:=x c
    have S:((N:Int)%2 == 1)=true:=by simp;omega
    have X:((N:Int).tmod 2 == 1)=true:=by rw[Int.tmod_eq_emod_of_nonneg (by omega)];exact S
    have M:(N:Int).tmod 2=1:=by rw[Int.tmod_eq_emod_of_nonneg (by omega)];omega
    rw[<-e]
    clear x p n g f a d c e t
    go_enter func234,ntmps234
    go_wp2
    exact BR ⟨rfl,Kp.refl _⟩
   ·have S:((N:Int)%2 == 1)=false:=by simp;omega
    have M:(N:Int).tmod 2=0:=by rw[Int.tmod_eq_emod_of_nonneg (by omega)];omega
    have X:((N:Int).tmod 2 == 1)=false:=by rw[M];rfl
    by_cases c2:P<0
    ·obtain⟨B,A⟩:=p (by omega) c2
     have j:=f B
     rw[A]at j
     have o2:(FloatKind.f64.format.order O 0 == some .lt)=true:=by rw[a,Int.compare_eq_lt.2 c2];rfl
     clear x p n g f a d c c2 B A t
     go_enter func234,ntmps234
     go_wp2_with fail
     refine j.mono ?_;rintro e V ⟨rfl,H⟩
     clear j
     go_wp2
     exact BR ⟨rfl,H⟩
    ·obtain⟨B,A⟩:=n (by omega) (by omega)
     have j:=g B
     rw[A]at j
     have o2:(FloatKind.f64.format.order O 0 == some .lt)=false:=by rw[a,Int.compare_eq_gt.2 (by omega)];rfl
     clear x p n g f a d c c2 B A t
     go_enter func234,ntmps234
     go_wp2_with fail
     refine j.mono ?_;rintro e V ⟨rfl,H⟩
     clear j
     go_wp2
     exact BR ⟨rfl,H⟩
  ·rw[L]
   by_cases c:E<0
   ·right;rw[if_pos c]
   ·left;rw[if_neg c]
theorem DJ (n n' nz:Bool)(m m' mz:Nat)(c1:2580562586483294208<=m∧m<=6633802251116740608)(c2:2580562586483294208<=m'∧m'<=6633802251116740608)(cz:mz<=9110782046170513408)(L:Nat)(hL:L=1074) :
  ∃(V:Int)(hn tn:Bool)(hr tr:Nat),V*((2^L:Nat):Int)=Iv n m*Iv n' m'+Iv nz mz*((2^L:Nat):Int)∧hr<9218868437227405312∧tr<9218868437227405312∧(∀w:World,Calls prog 199 #[.float .f64 (Fq.wD n m),.float .f64 (Fq.wD n' m'),.float .f64 (Fq.wD nz mz)] w (RT (.tuple #[.float .f64 (Fq.wD hn hr),.float .f64 (Fq.wD tn tr)]) w))∧∀d,fg d (Iv hn hr+Iv tn tr)=fg d V:=by
 obtain⟨e,e1,e2,u1,v1,v2⟩:=jw n m c1.1 c1.2
 obtain⟨e',e3,e4,u2,v3,v4⟩:=jw n' m' c2.1 c2.2
 obtain⟨E,l,I,t,f,K0,zV,t0,a0,b0,q0,q1,g,K1,K2,kV⟩:=lH n n' m m' e e' (by omega) (by omega) (by omega) (by omega) (by omega) (by omega) u1 v1 v2 u2 v3 v4 L hL
 obtain⟨K,hK⟩:∃K:Nat,K=2075:=⟨_,rfl⟩
 have kz:(Iv nz mz).natAbs<2^K:=by rw[gg];exact lF mz cz K hK
 have j:E.natAbs<2^(K-2):=by
  have g1:=Gd n n' m m' L E zV
  rw[<-gg n m,<-gg n' m']at g1
  have g2:=Nat.mul_lt_mul'' v2 v4
  rw[<-g1,gY,<-rL,<-ag,<-ag,<-ag]at g2
  have g3:2^(53+53+(e+e'))<=2^(K-2)*2^L:=by
   rw[<-ag];exact al (by decide) (by omega)
  exact bP (aE g2 g3)
 obtain⟨s9,r9,T0,_,_,n0,x9,u,N⟩:=fp E (n ^^ n') (K-2) (by omega) (by omega) j
 rw[show s9=l from u.trans q1.symm,show r9=t from x9.trans q0.symm]at n0 N
 have ko:(Iv I f).natAbs<2^K:=by
  rw[g]
  have h:=(gI j N (by omega)).2
  rw[show K-2+1+1=K from by omega]at h
  exact h
 obtain⟨A,ls,R,p,t1,a1,b1,q2,q3,c⟩:=ma nz I mz f K (by omega) (by omega) (by omega) b0 kz ko _ rfl
 have r:=(gm kz ko (ao K)).1
 obtain⟨s8,r8,T1,_,_,n1,x8,F,J⟩:=fp (Iv nz mz+Iv I f) (nz && I) (K+1) (by omega) (by omega) r
 rw[show s8=A from F.trans q3.symm,show r8=R from x8.trans q2.symm]at n1 J
 have kl:(Iv ls p).natAbs<2^(K+3):=by rw[c];exact(gI r J (by omega)).2
 have kP:(Iv l t).natAbs<2^(K+2):=aE N (al (by decide) (by omega))
 obtain⟨hn,s,hr,x,t2,a2,b2,q4,q5,a⟩:=ma l A t R (K+2) (by omega) (by omega) a0 a1 kP J _ rfl
 have q:=(gm kP J (ao (K+2))).1
 obtain⟨s7,r7,T2,_,_,y,x7,B,l2⟩:=fp (Iv l t+Iv A R) (l && A) (K+3) (by omega) (by omega) q
 rw[show s7=hn from B.trans q5.symm,show r7=hr from x7.trans q4.symm]at y l2
 have kg:(Iv s x).natAbs<2^(K+5):=by rw[a];exact(gI q l2 (by omega)).2
 have o:(Iv ls p).natAbs<2^(K+5):=aE kl (al (by decide) (by omega))
 obtain⟨fs,ns,fr,nr,t3,a3,b3,q6,q7,i⟩:=ma s ls x p (K+5) (by omega) (by omega) b2 b1 kg o _ rfl
 have C:=(gm kg o (ao (K+5))).1
 obtain⟨tn,tr,t4,h5,h6⟩:=GN (Iv s x+Iv ls p) fs ns (s && ls) fr nr (K+6) (by omega) (by omega) C a3 b3 q6 q7 i
 have hV:E+Iv nz mz=Iv hn hr+(Iv s x+Iv ls p):=by omega
 refine⟨E+Iv nz mz,hn,tn,hr,tr,by rw[Int.add_mul,zV],a2,t4,fun w=>?_,fun d=>?_⟩
 ·clear h6 hV C q6 q7 i a3 b3 o kg y l2 x7 B q q4 q5 a a2 b2 kP kl n1 J x8 F r q2 q3 c a1 b1 ko n0 N x9 u j kz hK zV a0 b0 q0 q1 g K1 K2 kV u1 v1 v2 u2 v3 v4 c1 c2 cz hL t4 e1 e2 e3 e4
  obtain⟨X,W⟩:=aA (Fq.wD n m)
  obtain⟨Y,hY⟩:=aA (Fq.wD n' m')
  obtain⟨Z,hZ⟩:=aA (Fq.wD nz mz)
  obtain⟨P,T⟩:=aA (Fq.wD l t)
  obtain⟨O,hO⟩:=aA (Fq.wD I f)
  obtain⟨S,hS⟩:=aA (Fq.wD A R)
  obtain⟨Q,hQ⟩:=aA (Fq.wD ls p)
  obtain⟨H,hH⟩:=aA (Fq.wD hn hr)
  obtain⟨G,hG⟩:=aA (Fq.wD s x)
  obtain⟨D,hD⟩:=aA (Fq.wD fs fr)
  obtain⟨M,hM⟩:=aA (Fq.wD ns nr)
  obtain⟨U,hU⟩:=aA (Fq.wD tn tr)
  rw[<-W,<-hY,<-T,<-hO]at t0
  rw[<-hZ,<-hO,<-hS,<-hQ]at t1
  rw[<-T,<-hS,<-hH,<-hG]at t2
  rw[<-hG,<-hQ,<-hD,<-hM]at t3
  rw[<-hD,<-hM,<-hU]at h5
  rw[<-W,<-hY,<-hZ,<-hH,<-hU]
  clear W hY hZ T hO hS hQ hH hG hD hM hU
  go_enter func199,ntmps199
  go_wp2_with fail
  refine SM (t0 _) ?_;clear t0
  go_wp2_with fail
  refine SM (t1 _) ?_;clear t1
  go_wp2_with fail
  refine SM (t2 _) ?_;clear t2
  go_wp2_with fail
  refine SM (t3 _) ?_;clear t3
  go_wp2_with fail
  refine(h5 _).mono ?_;rintro e w1 ⟨rfl,hk⟩;clear h5
  go_wp2
  exact BR ⟨rfl,hk⟩
 ·rw[hV]
  rcases h6 with h|⟨hnf,b,k,k1,k2,k3,k4⟩
  ·rw[h]
  ·obtain⟨f1,f2⟩:=so (tR l t) (tR ls p) n1 c y a rfl hnf
   exact ym _ _ _ T2 b k y.two y.dvd f1 f2 k2 k1 k3 k4 d
end Go.Proofs.YtmpjcknaelgnoaaGreatDoor
