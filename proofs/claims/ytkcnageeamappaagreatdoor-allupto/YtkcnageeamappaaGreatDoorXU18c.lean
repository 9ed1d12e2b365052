import Derived.Test.YtkcnageeamappaaGreatDoorXU18b
set_option maxHeartbeats 32000000
set_option maxRecDepth 8000
set_option linter.unusedSimpArgs false
namespace Go.Proofs
open Go.RowKit Go.Moor Go.Proofs.Tryz Go.Moor
theorem zT (l:Bs) (b:Nat) (h:b<l.length):(bn (l.drop b) !=35)=decide (l[b]≠35)/\0<=bn (l.drop b):=by
 rw[ch h];have e:bn (l[b]::l.drop (b+1))=(l[b].toNat:Int):=rfl;rw[e];refine⟨?_,by omega⟩;unfold bne;by_cases a:l[b]=35
 .rw[a];rfl
 .have:¬(l[b].toNat:Int)=35:=λe=>a ((dt l[b] 35 (by decide)).2 e)
  rw[dC a,aL.2 this];rfl
theorem Mo {B R k j:Nat} {x:Value} {s:ByteArray} {w0:World} {u:Adr} {F:Value} (a:Nat) {w:World} (P:Mem B R k j x s w0 u F (a:Nat) 11 0 w) (ha:a<=s.size) (hs:s.size<=1000000):Calls prog 124 #[.pointer (some ⟨k,0,none⟩)] w fun e w'=>e=.returned (.tuple #[])/\bl B R k j x s w0 (ju ⟨u,s.data.toList.drop a,11,0⟩) w':=by
 obtain⟨l,J⟩:=am s.data.toList;have c2:l.length=s.size:=by rw[J,bT];rfl
 have a4:Hid (∀(b:Nat) W,b<=s.size->Mem B R k j x s w0 u F (b:Nat) 11 0 W->CQ 176 #[Pt k] W (Iv (bn (l.drop b))) (Mem B R k j x s w0 u F (b:Nat) 11 0)):=by intro b W o T;rw[J];refine(ty b T (by omega)).mono ?_;rintro e w' ⟨he,n,rfl⟩;exact⟨he,T.drewN n⟩
 have a5:Hid (∀i j:Nat,s.extract i j=(Bv ((l.drop i).take (j- i)))):=by intro i j;rw[J];exact fJ s i j
 have z:=hI fun W=>kI (Bv u.s) W;have H:Hid (∀(b:Nat) (u2:Adr) W,b<=s.size->Mem B R k j x s w0 u2 F (b:Nat) 11 0 W->CQ 184 #[Pt k] W (.tuple #[]) (bl B R k j x s w0 (bw ⟨u2,s.data.toList.drop b,11,0⟩))):=fun b u2 W o T=>jC b 11 T o (by omega);have a0:Hid (∀b,a<=b->b<=s.size->(∀i (h:i<l.length),a<=i->i<b->decide (l[i]≠35)=true)->(b=l.length\/∃h:b<l.length,decide (l[b]≠35)=false)->ju ⟨u,s.data.toList.drop a,11,0⟩=bw ⟨{u with q:=some (ah (bE u.s) ((l.drop a).take (b- a)))},s.data.toList.drop b,11,0⟩):=by intro b a3 o S hx;rw[<-J];have:=tu (fun c=>decide (c≠35)) l a b a3 S (by omega) hx;unfold ju;simp only;rw[this.1,this.2]
 have a2:Hid (∀(t:Bs) (set:Int) W,t.length<=1000000->CB 40 #[Sv t,Iv set] W (Sv (ah set t))):=fun t set W ht=>hZ (Bv t) set W (by rw[al];omega);have y3:=P.y3;have y4:=P.y4;have HM:=hI P;clear P J;go_enter func124,ntmps124;go_wp2_with fail;go_loopw [] (fun wr=>∃b:Nat,a<=b/\b<=s.size/\(∀i (h:i<l.length),a<=i->i<b->decide (l[i]≠35)=true)/\Mem B R k j x s w0 u F (b:Nat) 11 0 wr) (fun wr=>s.size-((wr.cell? (Ad k 3)).map intOf).getD 0|>.toNat)
 case atStart=>exact⟨a,.refl,ha,fun i h Q r=>by omega,HM⟩
 case round=>
  clear HM y3 y4;obtain⟨b,a3,o,S,a8⟩:=hrel;have M:=hI S;have I:=hI a8;have m3:=a8.y3;clear S a8;by_cases a6:∃h:b<l.length,decide (l[b]≠35)=true
  .obtain⟨b1,K⟩:=a6
   have G:=zT l b b1;have b8:(bn (l.drop b) !=35)=true:=(by rw[G.1];exact K);have b2:=G.2;have b5:Hid (∀i (h:i<l.length),a<=i->i<b+1->decide (l[i]≠35)=true):=by
    intro i h Q r;obtain h3|h3:=jL i b
    .exact M i h Q h3
    .have:i=b:=by omega
     subst this;exact K
   have b3:b+1<=s.size:=(by omega);have y:Hid _:=fun W=>a4 b W o;generalize bn (l.drop b)=c at*;clear a0 M G K z H a2 a5;go_wp2_with fail;refine mH (y _ I) fun w1 L=>?_;go_wp2_with fail;refine mR (y _ L) fun f d=>?_;have b0:Hid _:=d;have N:=d.y3;have x3:=d.f 3;clear d;go_wp2;go_roundw
   case rel=>exact⟨b+1,by omega,b3,b5,b0.out.set_a _⟩
   case measure=>have e3:Ce (f.setCell (Ad k 3) (Iv ((b:Int)+1))) k 3 (Iv ((b:Int)+1)):=aa (b0.out.set_a ((b:Int)+1)).K 3;simp[intOf,m3,e3];try omega
  .have a7:b=l.length\/∃h:b<l.length,decide (l[b]≠35)=false:=by
    obtain h|h:=jL b l.length
    .right
     refine⟨h,?_⟩;cases K:decide (l[b]≠35) with
     |false=>rfl
     |true=>exact absurd ⟨h,K⟩ a6
    .left;omega
   have q:Hid _:=a0 b a3 o M a7;have b4:(¬0<=bn (l.drop b))\/(0<=bn (l.drop b)/\(bn (l.drop b) !=35)=false):=by
    rcases a7 with h|⟨h,r⟩
    .left
     rw[im (by omega)];decide
    .right
     have G:=zT l b h;exact⟨G.2,by rw[G.1];exact r⟩
   have hx:=a5 a b;have y:Hid _:=fun W=>a4 b W o;have b9:(a:Int)<=(b:Int):=(by omega);have c1:(b:Int)<=(s.size:Int):=(by omega);have a1:((l.drop a).take (b- a)).length<=1000000:=(by rw[cL,cm];omega);obtain⟨t,ht⟩:=am ((l.drop a).take (b- a));rw[<-ht] at hx q a1;have O:=hI fun set W=>a2 t set W a1;have A:Hid (∀f,Mem B R k j x s w0 u F (b:Nat) 11 0 f->∀(set:Int) g,Below (f.setCell (Ad j 8) (.bool true)).heap.size (f.setCell (Ad j 8) (.bool true)) g->Ce g k 0 (Pt j)/\Ce g k 2 (.string s)/\Ce g k 3 (Iv (b:Nat))/\(∃v,Ce g j 9 v)/\g.frozen? (Ad j 9)=false/\Hid (Mem B R k j x s w0 {u with q:=some (ah set t)} F (b:Nat) 11 0 (g.setCell (Ad j 9) (Sv (ah set t))))):=(by intro f d set g h5;have Q:=d.uset (u':={u with q:=some (u.q.getD [])}) 8 (.bool true) rfl rfl;have r:=Q.off h5;exact⟨aa r.K 0,aa r.K 2,aa r.K 3,⟨_,aa r.U 9⟩,r.g 9,r.uset 9 _ rfl rfl⟩);have a9:Hid (bE u.s=if ao u.s then 3 else 2):=rfl;rw[a9.out] at q;clear a0 M a6 a7 a2 a5 a4 ht a1 a9;generalize bn (l.drop b)=c at*;rcases b4 with b7|⟨b2,b6⟩
   .cases m:ao u.s with
    |true=>
     rw[m,ae rfl] at q;rw[m] at z;clear m;go_wp2_with fail;refine mR (y _ I) fun f d=>?_;have X:=d.y0;have z2:=d.y2;have N:=d.y3;have V:=d.v0;have c8:Ce f j 8 (.bool u.q.isSome):=aa d.U 8;have d8:=d.g 8;have Y:j≠k:=fun e=>d.ne e.symm;have D:Hid _:=A f d 3;clear d A;go_wp2_with fail;refine mR (z _) fun w3 U=>?_;obtain rfl:=U.symm;go_wp2;go_region_held3 (fun w'=>w'.cell? ⟨k,0,none⟩=some (.pointer (some ⟨j,0,none⟩))/\w'.cell? ⟨k,2,none⟩=some (.string s)/\w'.cell? ⟨k,3,none⟩=some (.int .i64 (b:Nat))) (go_keep) (first|(go_at_call 40;refine af (O.out _ _) ?_;rintro e g ⟨rfl,p⟩;obtain⟨v0,Z,v3,⟨v9,z9⟩,x9,C⟩:=D.out g ((du rfl rfl rfl rfl:Below (f.setCell ⟨j,8,none⟩ (.bool true)).heap.size (f.setCell ⟨j,8,none⟩ (.bool true)) (f.setCell ⟨j,8,none⟩ (.bool true)).drew).trans p);clear p))
     all_goals
      go_wp2_with fail;refine mH (H b _ _ o C) fun w9 E=>?_;go_wp2;go_end0;exact⟨rfl,by rw[q.out];exact E⟩
    |false=>
     rw[m,ab (by decide)] at q;rw[m] at z;clear m;go_wp2_with fail;refine mR (y _ I) fun f d=>?_;have X:=d.y0;have z2:=d.y2;have N:=d.y3;have V:=d.v0;have c8:Ce f j 8 (.bool u.q.isSome):=aa d.U 8;have d8:=d.g 8;have Y:j≠k:=fun e=>d.ne e.symm;have D:Hid _:=A f d 2;clear d A;go_wp2_with fail;refine mR (z _) fun w3 U=>?_;obtain rfl:=U.symm;go_wp2;go_region_held3 (fun w'=>w'.cell? ⟨k,0,none⟩=some (.pointer (some ⟨j,0,none⟩))/\w'.cell? ⟨k,2,none⟩=some (.string s)/\w'.cell? ⟨k,3,none⟩=some (.int .i64 (b:Nat))) (go_keep) (first|(go_at_call 40;refine af (O.out _ _) ?_;rintro e g ⟨rfl,p⟩;obtain⟨v0,Z,v3,⟨v9,z9⟩,x9,C⟩:=D.out g ((du rfl rfl rfl rfl:Below (f.setCell ⟨j,8,none⟩ (.bool true)).heap.size (f.setCell ⟨j,8,none⟩ (.bool true)) (f.setCell ⟨j,8,none⟩ (.bool true)).drew).trans p);clear p))
     all_goals
      go_wp2_with fail;refine mH (H b _ _ o C) fun w9 E=>?_;go_wp2;go_end0;exact⟨rfl,by rw[q.out];exact E⟩
   .cases m:ao u.s with
    |true=>
     rw[m,ae rfl] at q;rw[m] at z;clear m;go_wp2_with fail;refine mH (y _ I) fun w1 L=>?_;go_wp2_with fail;refine mR (y _ L) fun f d=>?_;have X:=d.y0;have z2:=d.y2;have N:=d.y3;have V:=d.v0;have c8:Ce f j 8 (.bool u.q.isSome):=aa d.U 8;have d8:=d.g 8;have Y:j≠k:=fun e=>d.ne e.symm;have D:Hid _:=A f d 3;clear d A;go_wp2_with fail;refine m0 (z _) ?_;go_wp2;go_region_held3 (fun w'=>w'.cell? ⟨k,0,none⟩=some (.pointer (some ⟨j,0,none⟩))/\w'.cell? ⟨k,2,none⟩=some (.string s)/\w'.cell? ⟨k,3,none⟩=some (.int .i64 (b:Nat))) (go_keep) (first|(go_at_call 40;refine af (O.out _ _) ?_;rintro e g ⟨rfl,p⟩;obtain⟨v0,Z,v3,⟨v9,z9⟩,x9,C⟩:=D.out g ((du rfl rfl rfl rfl:Below (f.setCell ⟨j,8,none⟩ (.bool true)).heap.size (f.setCell ⟨j,8,none⟩ (.bool true)) (f.setCell ⟨j,8,none⟩ (.bool true)).drew).trans p);clear p))
     all_goals
      go_wp2_with fail;refine mH (H b _ _ o C) fun w9 E=>?_;go_wp2;go_end0;exact⟨rfl,by rw[q.out];exact E⟩
    |false=>
     rw[m,ab (by decide)] at q;rw[m] at z;clear m;go_wp2_with fail;refine mH (y _ I) fun w1 L=>?_;go_wp2_with fail;refine mR (y _ L) fun f d=>?_;have X:=d.y0;have z2:=d.y2;have N:=d.y3;have V:=d.v0;have c8:Ce f j 8 (.bool u.q.isSome):=aa d.U 8;have d8:=d.g 8;have Y:j≠k:=fun e=>d.ne e.symm;have D:Hid _:=A f d 2;clear d A;go_wp2_with fail;refine m0 (z _) ?_;go_wp2;go_region_held3 (fun w'=>w'.cell? ⟨k,0,none⟩=some (.pointer (some ⟨j,0,none⟩))/\w'.cell? ⟨k,2,none⟩=some (.string s)/\w'.cell? ⟨k,3,none⟩=some (.int .i64 (b:Nat))) (go_keep) (first|(go_at_call 40;refine af (O.out _ _) ?_;rintro e g ⟨rfl,p⟩;obtain⟨v0,Z,v3,⟨v9,z9⟩,x9,C⟩:=D.out g ((du rfl rfl rfl rfl:Below (f.setCell ⟨j,8,none⟩ (.bool true)).heap.size (f.setCell ⟨j,8,none⟩ (.bool true)) (f.setCell ⟨j,8,none⟩ (.bool true)).drew).trans p);clear p))
     all_goals
      go_wp2_with fail;refine mH (H b _ _ o C) fun w9 E=>?_;go_wp2;go_end0;exact⟨rfl,by rw[q.out];exact E⟩
end Go.Proofs
