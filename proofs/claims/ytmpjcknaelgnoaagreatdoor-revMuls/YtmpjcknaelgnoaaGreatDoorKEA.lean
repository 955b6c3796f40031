import Derived.Test.YtmpjcknaelgnoaaGreatDoorKMR30
set_option maxHeartbeats 1000000
set_option maxRecDepth 20000
namespace Go.Proofs.YtmpjcknaelgnoaaGreatDoor
open Go.RowKit Tryz
namespace Fq
theorem Grown.setCell {W w':World}(h:Grown W w'){a:Addr}(ha:W.heap.size<=a.block)(v:Value):Grown W (w'.setCell a v):=Below.setCell h ha v
@[go_sem] theorem uz (P:Program) (w:World) (a:Addr) (m:Mode) (k:FloatKind) (x:Nat):(store a (.float k x) m).run P w=stored P w a (.float k x) m:=run_store P w a _ m rfl
theorem nP (w:World):Calls prog 68 #[.int .i64 1] w (RE (.float .f64 9218868437227405312) w):=by
 have a:∀w:World,(callFunc 36 #[.int .u64 9218868437227405312]).run prog w=.ok (.value (.float .f64 9218868437227405312)) w:=DO 9218868437227405312
 go_enter func68,ntmps68
 go_wp2_with (first|(simp only[a]))
 exact BR (v:=.float .f64 9218868437227405312) ⟨rfl,rfl⟩
theorem qO (w:World):Calls prog 68 #[.int .i64 (-1)] w (RE (.float .f64 18442240474082181120) w):=by
 have a:∀w:World,(callFunc 36 #[.int .u64 18442240474082181120]).run prog w=.ok (.value (.float .f64 18442240474082181120)) w:=DO 18442240474082181120
 go_enter func68,ntmps68
 go_wp2_with (first|(simp only[a]))
 exact BR (v:=.float .f64 18442240474082181120) ⟨rfl,rfl⟩
theorem tE (x:Nat)(h:x<18446744073709551616)(w:World):Calls prog 94 #[.float .f64 x] w (RE (.float .f64 (kL x)) w):=by
 have t:=GU x h
 by_cases c:x=0∨x=9223372036854775808
 ·rw[af c]at t
  have e:kL x=0:=by unfold kL;split<;>omega
  rw[e];clear c e h
  go_enter func94,ntmps94
  go_wp2
  exact BR (v:=.float .f64 0) ⟨rfl,rfl⟩
 ·rw[ae c]at t
  have e:kL x=x:=by unfold kL;rw[if_neg (by omega)]
  rw[e];clear c e h
  go_enter func94,ntmps94
  go_wp2
  exact BR ⟨rfl,rfl⟩
theorem iN (w:World):Calls prog 89 #[] w fun e w'=>e=.returned (.agg #[.float .f64 9218868437227405312,.float .f64 18442240474082181120])∧w'=w.alloc (.cells #[.float .f64 9218868437227405312,.float .f64 18442240474082181120] 29):=by
 go_enter func89,ntmps89
 go_wp2_with (go_at_call 68;(first|refine(nP _).mono ?_|refine(qO _).mono ?_);rintro e w' ⟨rfl,rfl⟩)
 exact BR ⟨rfl,rfl⟩
theorem FQ (w:World):Calls prog 116 #[] w fun e w'=>e=.returned (.agg #[.float .f64 18442240474082181120,.float .f64 9218868437227405312])∧w'=w.alloc (.cells #[.float .f64 18442240474082181120,.float .f64 9218868437227405312] 29):=by
 go_enter func116,ntmps116
 go_wp2_with (go_at_call 68;(first|refine(nP _).mono ?_|refine(qO _).mono ?_);rintro e w' ⟨rfl,rfl⟩)
 exact BR ⟨rfl,rfl⟩
end Fq
namespace Fq
theorem Hi (a b:Nat)(ha:a<18446744073709551616)(hb:b<18446744073709551616)(w:World):Calls prog 38 #[.agg #[.float .f64 a,.float .f64 b]] w fun e w'=>e=.returned (.agg #[.float .f64 (th a b),.float .f64 (tj a b)])∧Grown w w':=by
 have k:=FM a ha
 have h:=FK b hb
 have i:=tE a ha
 have g:=tE b hb
 by_cases l:(FloatKind.f64.format.order a b == some Ordering.lt || FloatKind.f64.format.order a b == some Ordering.eq)=true
 ·by_cases d:a=9218868437227405312
  ·have c:rH a b=false:=by simp[rH,d]
   rw[af d]at k
   rw[show th a b=9218868437227405312 from by simp[th,c],show tj a b=18442240474082181120 from by simp[tj,c]]
   clear d c ha hb
   go_enter func38,ntmps38
   go_wp2
   go_quiet ((go_at_call 68;exact Calls.quiet_of_same (nP _)))
   go_wp2_with (first|(go_at_call 89;refine(iN _).mono ?_;rintro e w' ⟨rfl,rfl⟩))
   exact BR (v:=.agg #[.float .f64 9218868437227405312,.float .f64 18442240474082181120]) ⟨rfl,(by repeat(with_reducible(first|exact Grown.refl _|apply Grown.alloc|apply pi|(refine Grown.setCell ?_ (by simp<;>omega) _))))⟩
  ·rw[ae d]at k
   by_cases f:b=18442240474082181120
   ·have c:rH a b=false:=by simp[rH,f]
    rw[af f]at h
    rw[show th a b=9218868437227405312 from by simp[th,c],show tj a b=18442240474082181120 from by simp[tj,c]]
    clear d f c ha hb
    go_enter func38,ntmps38
    go_wp2
    go_quiet ((go_at_call 68;first|exact Calls.quiet_of_same (nP _)|exact Calls.quiet_of_same (qO _)))
    go_wp2_with (first|(go_at_call 89;refine(iN _).mono ?_;rintro e w' ⟨rfl,rfl⟩))
    exact BR (v:=.agg #[.float .f64 9218868437227405312,.float .f64 18442240474082181120]) ⟨rfl,(by repeat(with_reducible(first|exact Grown.refl _|apply Grown.alloc|apply pi|(refine Grown.setCell ?_ (by simp<;>omega) _))))⟩
   ·have c:rH a b=true:=by simp only[rH,l,d,f];simp
    rw[ae f]at h
    rw[show th a b=kL a from by simp[th,c],show tj a b=kL b from by simp[tj,c]]
    clear d f c ha hb
    go_enter func38,ntmps38
    go_wp2
    go_quiet ((go_at_call 68;first|exact Calls.quiet_of_same (nP _)|exact Calls.quiet_of_same (qO _)))
    go_wp2
    go_region_held3 (fun w'=>w'.cell? ⟨w.heap.size,0,none⟩=some (.float .f64 a)∧w'.cell? ⟨w.heap.size,1,none⟩=some (.float .f64 b)) (simp[go_sem,World.cell?_alloc_past]) (first|(go_at_call 94;(first|refine(i _).mono ?_|refine(g _).mono ?_);rintro e w' ⟨rfl,rfl⟩))
    go_wp2
    exact BR (v:=.agg #[.float .f64 (kL a),.float .f64 (kL b)]) ⟨rfl,(by repeat(with_reducible(first|exact Grown.refl _|apply Grown.alloc|apply pi|(refine Grown.setCell ?_ (by simp<;>omega) _))))⟩
 ·have j:(FloatKind.f64.format.order a b == some Ordering.lt || FloatKind.f64.format.order a b == some Ordering.eq)=false:=by simpa using l
  have c:rH a b=false:=by simp only[rH,j];simp
  rw[show th a b=9218868437227405312 from by simp[th,c],show tj a b=18442240474082181120 from by simp[tj,c]]
  clear l c ha hb k h
  go_enter func38,ntmps38
  go_wp2
  go_quiet ((go_at_call 68;first|exact Calls.quiet_of_same (nP _)|exact Calls.quiet_of_same (qO _)))
  go_wp2_with (first|(go_at_call 89;refine(iN _).mono ?_;rintro e w' ⟨rfl,rfl⟩))
  exact BR (v:=.agg #[.float .f64 9218868437227405312,.float .f64 18442240474082181120]) ⟨rfl,(by repeat(with_reducible(first|exact Grown.refl _|apply Grown.alloc|apply pi|(refine Grown.setCell ?_ (by simp<;>omega) _))))⟩
end Fq
namespace Fq

theorem BG {W w:World}(h:Grown W w){a:Addr}(_hb:a.block<W.heap.size):w.frozen? a=W.frozen? a:=Below.frozen h _hb
def H2 (w:World)(b:Nat)(u v:Value):Prop:=w.cell? ⟨b,0,none⟩=some u∧w.cell? ⟨b,1,none⟩=some v∧w.frozen? ⟨b,0,none⟩=false∧w.frozen? ⟨b,1,none⟩=false
theorem H2.keep {W w:World}{b:Nat}{u v:Value}(h:H2 W b u v)(g:Grown W w):H2 w b u v :=
 ⟨ft g h.1,ft g h.2.1,(BG g (be h.1)).trans h.2.2.1,(BG g (be h.1)).trans h.2.2.2⟩
theorem H2.new (w:World)(u v:Value)(t:TypeId):H2 (w.alloc (.cells #[u,v] t)) w.heap.size u v:=by
 unfold H2;simp[go_sem]
theorem H2.past {w:World}{b:Nat}{u v:Value}(h:H2 w b u v)(c:Array Value)(t:TypeId):H2 (w.alloc (.cells c t)) b u v:=h.keep (Grown.alloc (Grown.refl _) c t)
end Fq
namespace Fq
theorem H2.put {w:World}{b:Nat}{u v:Value}(h:H2 w b u v)(u' v':Value):H2 ((w.setCell ⟨b,0,none⟩ u').setCell ⟨b,1,none⟩ v') b u' v':=by
 obtain⟨d,a,c,f⟩:=h
 unfold H2;simp[go_sem,d,a,c,f]
theorem H2.far {w:World}{b:Nat}{u v:Value}(h:H2 w b u v){c:Nat}(hne:c≠b)(u' v':Value):H2 ((w.setCell ⟨c,0,none⟩ u').setCell ⟨c,1,none⟩ v') b u v:=by
 obtain⟨f,a,d,g⟩:=h
 refine⟨?_, ?_, ?_, ?_⟩
 ·rw[CF _ _ _ _ (by simpa using hne),CF _ _ _ _ (by simpa using hne)];exact f
 ·rw[CF _ _ _ _ (by simpa using hne),CF _ _ _ _ (by simpa using hne)];exact a
 ·simp only[World.frozen?_setCell];exact d
 ·simp only[World.frozen?_setCell];exact g
end Fq
namespace Fq

theorem vJ (Y:Nat)(h:Y<18446744073709551616):18446744073709551615 ^^^ Y=18446744073709551615-Y:=by
 have e:18446744073709551615-Y=2^64-(Y+1):=by omega
 rw[e,show 18446744073709551615=2^64-1 from by decide]
 apply eS
 intro i
 rw[Nat.testBit_xor,Nat.testBit_two_pow_sub_one,eB (by omega)]
 by_cases c:i<64
 ·simp[c]
 ·have:Y.testBit i=false:=eG (aE (show Y<2^64 by omega) (al (by decide) (by omega)))
  simp[c,this]
theorem Db (n:Bool)(m X:Nat)(hm:m<9223372036854775808)(hX:X=wD n m):bits .andNot .u64 (X:Int) 9223372036854775808=(m:Int)∧X<18446744073709551616:=by
 have a:X<18446744073709551616:=by rw[hX];unfold wD;split<;>omega
 have h:=u64_andNot_nat X 9223372036854775808 a (by decide)
 have e:X%9223372036854775808=m:=by rw[hX];unfold wD;split<;>omega
 rw[show 18446744073709551615-9223372036854775808=2^63-1 from by decide,cG,show(2:Nat)^63=9223372036854775808 from by decide,e]at h
 exact⟨h,a⟩
theorem kF (n:Bool)(m:Nat)(hm:m<9223372036854775808)(w:World):Calls prog 187 #[.int .u64 ((wD n m:Nat):Int)] w (RE (.bool (decide (9218868437227405312<m))) w):=by
 obtain⟨X,a⟩:=aA (wD n m)
 have d:=(Db n m X hm a).1
 rw[<-a]
 clear a hm
 by_cases c:9218868437227405312<m
 ·have b:9218868437227405312<(m:Int):=by omega
  rw[af c]
  clear c
  go_enter func187,ntmps187
  go_wp2
  exact BR ⟨rfl,rfl⟩ (by simp[results,results187,go_sem]<;>omega)
 ·have b:¬(9218868437227405312<(m:Int)):=by omega
  rw[ae c]
  clear c
  go_enter func187,ntmps187
  go_wp2
  exact BR ⟨rfl,rfl⟩ (by simp[results,results187,go_sem]<;>omega)
theorem mC (n:Bool)(m:Nat)(hm:m<=9218868437227405312)(w:World):Calls prog 149 #[.int .u64 ((wD n m:Nat):Int)] w (RE (.int .u64 ((kL (wD n m):Nat):Int)) w):=by
 have a:=kF n m (by omega)
 rw[ae (by omega)]at a
 obtain⟨X,b⟩:=aA (wD n m)
 rw[<-b]at a|-
 clear b hm
 by_cases c:X=9223372036854775808
 ·have t:((X:Int) == 9223372036854775808)=true:=by rw[c];rfl
  rw[show kL X=0 from by simp[kL,c]]
  clear c a
  go_enter func149,ntmps149
  go_wp2
  exact BR (v:=.int .u64 0) ⟨rfl,rfl⟩
 ·have t:((X:Int) == 9223372036854775808)=false:=by simp;omega
  rw[show kL X=X from by simp[kL,c]]
  clear c
  go_enter func149,ntmps149
  go_wp2_with (first|(go_at_call 187;refine(a _).mono ?_;rintro e d ⟨rfl,rfl⟩))
  exact BR ⟨rfl,rfl⟩
theorem Bx (n:Bool)(m:Nat)(hm:m<=9218868437227405312)(w:World):Calls prog 217 #[.int .u64 ((wD n m:Nat):Int)] w (RE (.int .u64 ((rp (wD n m):Nat):Int)) w):=by
 have f:=mC n m hm
 have a:kL (wD n m)<18446744073709551616:=CR _ (by unfold wD;split<;>omega)
 obtain⟨X,g⟩:=aA (wD n m)
 rw[<-g]at f a|-
 unfold rp
 obtain⟨Y,k⟩:=aA (kL X)
 rw[<-k]at f a|-
 clear g hm k
 by_cases c:9223372036854775808<=Y
 ·have t:9223372036854775808<=(Y:Int):=by omega
  have u:bits .xor .u64 IntKind.u64.max (Y:Int)=((18446744073709551615-Y:Nat):Int):=by
   have h:=u64_xor_nat 18446744073709551615 Y (by decide) a
   rw[vJ Y a]at h
   exact h
  rw[if_pos c]
  clear c a
  obtain⟨Z,d⟩:∃Z:Nat,Z=18446744073709551615-Y:=⟨_,rfl⟩
  rw[<-d]at u|-
  clear d
  go_enter func217,ntmps217
  go_wp2_with (first|(go_at_call 149;refine(f _).mono ?_;rintro e l ⟨rfl,rfl⟩))
  exact BR ⟨rfl,rfl⟩
 ·have t:decide (9223372036854775808<=(Y:Int))=false:=ae (by omega)
  have u:bits .or .u64 (Y:Int) 9223372036854775808=((Y+9223372036854775808:Nat):Int):=by
   have h:=u64_or_nat Y 9223372036854775808 a (by decide)
   have j:=Nat.two_pow_add_eq_or_of_lt (i:=63) (b:=Y) (by omega) 1
   rw[show 2^63*1=9223372036854775808 from by decide]at j
   rw[eH,<-j,dz]at h
   exact h
  rw[if_neg c]
  clear c a
  obtain⟨Z,d⟩:∃Z:Nat,Z=Y+9223372036854775808:=⟨_,rfl⟩
  rw[<-d]at u|-
  clear d
  go_enter func217,ntmps217
  go_wp2_with (first|(go_at_call 149;refine(f _).mono ?_;rintro e l ⟨rfl,rfl⟩))
  exact BR ⟨rfl,rfl⟩
theorem AR (n n':Bool)(m m':Nat)(hm:m<9223372036854775808)(hm':m'<9223372036854775808)(w:World):Calls prog 188 #[.int .u64 ((wD n m:Nat):Int),.int .u64 ((wD n' m':Nat):Int)] w (RE (.bool (decide (m<=9218868437227405312∧m'<=9218868437227405312∧gU n' m'<gU n m))) w):=by
 have f:=kF n m hm
 have b:=kF n' m' hm'
 have i:=Dm n' n m' m
 have c:=Bx n m
 have a:=Bx n' m'
 have g:m<=9218868437227405312->m'<=9218868437227405312->decide (m<=9218868437227405312∧m'<=9218868437227405312∧gU n' m'<gU n m)=decide ((rp (wD n' m'):Int)<(rp (wD n m):Int)):=by
  intro o l
  have i:=i l o
  have:((rp (wD n' m'):Int)<(rp (wD n m):Int)) ↔ gU n' m'<gU n m:=by rw[<-i];omega
  simp only[this];congr 1;apply propext;omega
 clear i
 obtain⟨X,j⟩:=aA (wD n m)
 obtain⟨Y,k⟩:=aA (wD n' m')
 rw[<-j]at f c g|-
 rw[<-k]at b a g|-
 clear j k
 by_cases h:9218868437227405312<m
 ·rw[af h]at f
  rw[ae (by omega)]
  clear h g c a hm hm' b
  go_enter func188,ntmps188
  go_wp2_with (first|(go_at_call 187;refine(f _).mono ?_;rintro e d ⟨rfl,rfl⟩))
  exact BR ⟨rfl,rfl⟩
 rw[ae h]at f
 by_cases c2:9218868437227405312<m'
 ·rw[af c2]at b
  rw[ae (by omega)]
  clear h c2 g c a hm hm'
  go_enter func188,ntmps188
  go_wp2_with (first|(go_at_call_of 187 (Value.int .u64 (X:Int));refine(f _).mono ?_;rintro e d ⟨rfl,rfl⟩)|(go_at_call_of 187 (Value.int .u64 (Y:Int));refine(b _).mono ?_;rintro e d ⟨rfl,rfl⟩))
  exact BR ⟨rfl,rfl⟩
 rw[ae c2]at b
 have c:=c (by omega)
 have a:=a (by omega)
 rw[g (by omega) (by omega)]
 clear g h c2 hm hm'
 generalize rp X=KX at c|-
 generalize rp Y=KY at a|-
 go_enter func188,ntmps188
 go_wp2_with (first|(go_at_call_of 187 (Value.int .u64 (X:Int));refine(f _).mono ?_;rintro e d ⟨rfl,rfl⟩)|(go_at_call_of 187 (Value.int .u64 (Y:Int));refine(b _).mono ?_;rintro e d ⟨rfl,rfl⟩)|(go_at_call_of 217 (Value.int .u64 (X:Int));refine(c _).mono ?_;rintro e d ⟨rfl,rfl⟩)|(go_at_call_of 217 (Value.int .u64 (Y:Int));refine(a _).mono ?_;rintro e d ⟨rfl,rfl⟩))
 exact BR ⟨rfl,rfl⟩
end Fq
namespace Fq
theorem zk (w:World):Calls prog 72 #[] w fun e w'=>e=.returned (.agg #[.int .u64 9218868437227405312,.int .u64 18442240474082181120])∧w'=w.alloc (.cells #[.int .u64 9218868437227405312,.int .u64 18442240474082181120] 24):=by
 go_enter func72,ntmps72
 go_wp2
 exact BR ⟨rfl,rfl⟩
theorem EQ (w:World):Calls prog 93 #[] w fun e w'=>e=.returned (.agg #[.int .u64 18442240474082181120,.int .u64 9218868437227405312])∧w'=w.alloc (.cells #[.int .u64 18442240474082181120,.int .u64 9218868437227405312] 24):=by
 go_enter func93,ntmps93
 go_wp2
 exact BR ⟨rfl,rfl⟩
theorem Cg (n n':Bool)(m m':Nat)(hm:m<9223372036854775808)(hm':m'<9223372036854775808)(w:World):Calls prog 148 #[.agg #[.int .u64 (((wD n m):Nat):Int),.int .u64 (((wD n' m'):Nat):Int)]] w fun e w'=>e=.returned (.bool (rH (wD n m) (wD n' m')))∧w'=w.alloc (.cells #[.int .u64 (((wD n m):Nat):Int),.int .u64 (((wD n' m'):Nat):Int)] 24):=by
 have d:=kF n m hm
 have a:=kF n' m' hm'
 have b:=AR n n' m m' hm hm'
 have f:=Bb n n' m m' hm hm'
 have g:(wD n m=9218868437227405312) ↔ (n=false∧m=9218868437227405312):=by unfold wD;cases n<;>simp;omega
 have c:(wD n' m'=18442240474082181120) ↔ (n'=true∧m'=9218868437227405312):=by unfold wD;cases n'<;>simp<;>omega
 obtain⟨X,k⟩:=aA (wD n m)
 obtain⟨Y,l⟩:=aA (wD n' m')
 rw[<-k]at d b f g|-
 rw[<-l]at a b f c|-
 clear k l
 rw[f]
 by_cases i:9218868437227405312<m
 ·rw[af i]at d
  rw[ae (by omega)]
  clear i f g c hm hm' a b
  go_enter func148,ntmps148
  go_wp2_with (first|(go_at_call_of 187 (Value.int .u64 (X:Int));refine(d _).mono ?_;rintro e w' ⟨rfl,rfl⟩))
  exact BR ⟨rfl,rfl⟩
 rw[ae i]at d
 by_cases c2:9218868437227405312<m'
 ·rw[af c2]at a
  rw[ae (by omega)]
  clear i c2 f g c hm hm' b
  go_enter func148,ntmps148
  go_wp2_with (first|(go_at_call_of 187 (Value.int .u64 (X:Int));refine(d _).mono ?_;rintro e w' ⟨rfl,rfl⟩)|(go_at_call_of 187 (Value.int .u64 (Y:Int));refine(a _).mono ?_;rintro e w' ⟨rfl,rfl⟩))
  exact BR ⟨rfl,rfl⟩
 rw[ae c2]at a
 by_cases c3:gU n' m'<gU n m
 ·rw[af ⟨by omega,by omega,c3⟩]at b
  rw[ae (by omega)]
  clear i c2 c3 f g c hm hm'
  go_enter func148,ntmps148
  go_wp2_with (first|(go_at_call_of 187 (Value.int .u64 (X:Int));refine(d _).mono ?_;rintro e w' ⟨rfl,rfl⟩)|(go_at_call_of 187 (Value.int .u64 (Y:Int));refine(a _).mono ?_;rintro e w' ⟨rfl,rfl⟩)|(go_at_call 188;refine(b _).mono ?_;rintro e w' ⟨rfl,rfl⟩))
  exact BR ⟨rfl,rfl⟩
 rw[ae (by omega)]at b
 by_cases c4:X=9218868437227405312
 ·have o:((X:Int) != 9218868437227405312)=false:=by rw[c4];rfl
  rw[ae (fun h=>h.2.2.2.1 (g.mp c4))]
  clear i c2 c3 c4 f g c hm hm'
  go_enter func148,ntmps148
  go_wp2_with (first|(go_at_call_of 187 (Value.int .u64 (X:Int));refine(d _).mono ?_;rintro e w' ⟨rfl,rfl⟩)|(go_at_call_of 187 (Value.int .u64 (Y:Int));refine(a _).mono ?_;rintro e w' ⟨rfl,rfl⟩)|(go_at_call 188;refine(b _).mono ?_;rintro e w' ⟨rfl,rfl⟩))
  exact BR ⟨rfl,rfl⟩
 have o:((X:Int) != 9218868437227405312)=true:=by simp;omega
 by_cases j:Y=18442240474082181120
 ·have p:((Y:Int) != 18442240474082181120)=false:=by rw[j];rfl
  rw[ae (fun h=>h.2.2.2.2 (c.mp j))]
  clear i c2 c3 c4 j f g c hm hm'
  go_enter func148,ntmps148
  go_wp2_with (first|(go_at_call_of 187 (Value.int .u64 (X:Int));refine(d _).mono ?_;rintro e w' ⟨rfl,rfl⟩)|(go_at_call_of 187 (Value.int .u64 (Y:Int));refine(a _).mono ?_;rintro e w' ⟨rfl,rfl⟩)|(go_at_call 188;refine(b _).mono ?_;rintro e w' ⟨rfl,rfl⟩))
  exact BR ⟨rfl,rfl⟩
 have p:((Y:Int) != 18442240474082181120)=true:=by simp;omega
 rw[af ⟨by omega,by omega,by omega,fun h=>c4 (g.mpr h),fun h=>j (c.mpr h)⟩]
 clear i c2 c3 c4 j f g c hm hm'
 go_enter func148,ntmps148
 go_wp2_with (first|(go_at_call_of 187 (Value.int .u64 (X:Int));refine(d _).mono ?_;rintro e w' ⟨rfl,rfl⟩)|(go_at_call_of 187 (Value.int .u64 (Y:Int));refine(a _).mono ?_;rintro e w' ⟨rfl,rfl⟩)|(go_at_call 188;refine(b _).mono ?_;rintro e w' ⟨rfl,rfl⟩))
 exact BR ⟨rfl,rfl⟩
theorem GG (n n':Bool)(m m':Nat)(hm:m<9223372036854775808)(hm':m'<9223372036854775808)(w:World):Calls prog 98 #[.agg #[.int .u64 (((wD n m):Nat):Int),.int .u64 (((wD n' m'):Nat):Int)]] w fun e w'=>e=.returned (.agg #[.int .u64 (((th (wD n m) (wD n' m')):Nat):Int),.int .u64 (((tj (wD n m) (wD n' m')):Nat):Int)])∧Grown w w':=by
 have d:=Cg n n' m m' hm hm'
 have b:=Bb n n' m m' hm hm'
 have f:=mC n m
 have a:=mC n' m'
 obtain⟨X,h⟩:=aA (wD n m)
 obtain⟨Y,g⟩:=aA (wD n' m')
 rw[<-h]at d b f|-
 rw[<-g]at d b a|-
 clear h g
 by_cases c:rH X Y=true
 ·rw[c]at d
  rw[show th X Y=kL X from by simp[th,c],show tj X Y=kL Y from by simp[tj,c]]
  rw[c]at b
  replace b:=cM b.symm
  replace f:=f b.1
  replace a:=a b.2.1
  clear b c hm hm'
  generalize ((kL X:Nat):Int)=PX at f|-
  generalize ((kL Y:Nat):Int)=PY at a|-
  generalize (X:Int)=X at d f|-
  generalize (Y:Int)=Y at d a|-
  go_enter func98,ntmps98
  go_wp2_with (first|(go_at_call 148;refine(d _).mono ?_;rintro e w' ⟨rfl,rfl⟩))
  go_region_held3 (fun w'=>w'.cell? ⟨w.heap.size,0,none⟩=some (.int .u64 X)∧w'.cell? ⟨w.heap.size,1,none⟩=some (.int .u64 Y)) (simp[go_sem,World.cell?_alloc_past]) (first|(go_at_call_of 149 (Value.int .u64 X);refine(f _).mono ?_;rintro e w' ⟨rfl,rfl⟩)|(go_at_call_of 149 (Value.int .u64 Y);refine(a _).mono ?_;rintro e w' ⟨rfl,rfl⟩))
  go_wp2
  exact BR (v:=.agg #[.int .u64 PX,.int .u64 PY]) ⟨rfl,(by repeat(with_reducible(first|exact Grown.refl _|apply Grown.drew|apply Grown.alloc)))⟩
 ·have c:rH X Y=false:=by simpa using c
  rw[c]at d
  rw[show th X Y=9218868437227405312 from by simp[th,c],show tj X Y=18442240474082181120 from by simp[tj,c]]
  clear b c hm hm' f a
  go_enter func98,ntmps98
  go_wp2_with (first|(go_at_call 148;refine(d _).mono ?_;rintro e w' ⟨rfl,rfl⟩)|(go_at_call 72;refine(zk _).mono ?_;rintro e w' ⟨rfl,rfl⟩))
  exact BR (v:=.agg #[.int .u64 9218868437227405312,.int .u64 18442240474082181120]) ⟨rfl,(by repeat(with_reducible(first|exact Grown.refl _|apply Grown.alloc)))⟩
end Fq
def En (x:Nat):Nat:=if x%9223372036854775808=0 then 0 else if x<9223372036854775808 then x+9223372036854775808 else x-9223372036854775808
theorem Ff (n:Bool)(m:Nat)(hm:m<9223372036854775808):En (Fq.wD n m)=Gv n m:=by
 unfold En Gv Fq.kL Fq.wD
 cases n<;>simp<;>repeat' split
 all_goals omega
theorem zT (n:Bool)(m:Nat)(hm:m<=9218868437227405312)(w:World):Calls prog 107 #[.float .f64 (Fq.wD n m)] w (RE (.float .f64 (En (Fq.wD n m))) w):=by
 have a:=rD n m hm
 rw[<-Ff n m (by omega)]at a
 generalize Fq.wD n m=X at a|-
 generalize En X=Z at a|-
 have b:∀w:World,(binOp .sub 27 (.float .f64 0) (.float .f64 X)).run prog w=.ok (.float .f64 Z) w:=fun w=>run_float_arith w .sub 27 .f64 0 X Z a
 clear a hm
 go_enter func107,ntmps107
 go_wp2
 exact BR ⟨rfl,rfl⟩
theorem Fq.H2.two0 (w:World)(a b c d:Value)(s t:TypeId):Fq.H2 ((w.alloc (.cells #[a,b] s)).alloc (.cells #[c,d] t)) (w.heap.size+1) c d:=by
 unfold Fq.H2;simp[go_sem]
theorem Dc (a b LO HI NL NH:Nat)(hr:KC 38 #[.agg #[.float .f64 a,.float .f64 b]] (.agg #[.float .f64 LO,.float .f64 HI]))(h1:SC 107 #[.float .f64 LO] (.float .f64 NL))(h2:SC 107 #[.float .f64 HI] (.float .f64 NH))(w:World):Calls prog 49 #[.agg #[.float .f64 a,.float .f64 b]] w (RT (.agg #[.float .f64 NH,.float .f64 NL]) w):=by
 go_enter func49,ntmps49
 go_wp2_with (first|(go_at_call 38;refine(hr _).mono ?_;rintro e f ⟨rfl,c⟩;have j:=Fq.H2.keep (Fq.H2.past (Fq.H2.new w (.float .f64 a) (.float .f64 b) 29) #[.float .f64 0,.float .f64 0] 29) c;have h:Fq.H2 f (w.heap.size+1) (.float .f64 0) (.float .f64 0):=Fq.H2.keep (Fq.H2.two0 w (.float .f64 a) (.float .f64 b) (.float .f64 0) (.float .f64 0) 29 29) c;obtain⟨x0,d,r,o⟩:=id j;obtain⟨k,i,n,p⟩:=id h))
 have m:Kp w f:=Kp.trans (((Kp.refl w).alloc _).alloc _) c
 have l:=Fq.H2.put j (.float .f64 LO) (.float .f64 HI)
 have q:=Fq.H2.far h (show w.heap.size≠w.heap.size+1 by omega) (.float .f64 LO) (.float .f64 HI)
 have s:Kp w ((f.setCell ⟨w.heap.size,0,none⟩ (.float .f64 LO)).setCell ⟨w.heap.size,1,none⟩ (.float .f64 HI)):=(m.setCell (ao _) _).setCell (ao _) _
 generalize hW:(f.setCell ⟨w.heap.size,0,none⟩ (.float .f64 LO)).setCell ⟨w.heap.size,1,none⟩ (.float .f64 HI)=W at l q s|-
 clear hW m j h c x0 d r o k i n p
 obtain⟨x0,d,r,o⟩:=id l
 obtain⟨k,i,n,p⟩:=id q
 go_region_held3 (fun g=>g.cell? ⟨w.heap.size,0,none⟩=some (.float .f64 LO)∧g.cell? ⟨w.heap.size,1,none⟩=some (.float .f64 HI)) (first|(exact⟨x0,d⟩)|(exact⟨(CF _ _ _ _ (by simp)).trans ((CF _ _ _ _ (by simp)).trans x0),(CF _ _ _ _ (by simp)).trans ((CF _ _ _ _ (by simp)).trans d)⟩)) (first|(go_at_call_of 107 (Value.float .f64 HI);refine(h2 _).mono ?_;rintro e g ⟨rfl,rfl⟩)|(go_at_call_of 107 (Value.float .f64 LO);refine(h1 _).mono ?_;rintro e g ⟨rfl,rfl⟩))
 go_wp2
 exact BR (v:=.agg #[.float .f64 NH,.float .f64 NL]) ⟨rfl,(by repeat(with_reducible(first|assumption|apply Kp.drew|(refine Kp.setCell ?_ (by (simp<;>omega)) _))))⟩ (by simp[results,results49,go_sem,k,i])
end Go.Proofs.YtmpjcknaelgnoaaGreatDoor
