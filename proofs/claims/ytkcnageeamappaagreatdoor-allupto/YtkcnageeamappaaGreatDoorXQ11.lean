import Derived.Test.YtkcnageeamappaaGreatDoorXQ10
set_option maxHeartbeats 32000000
set_option maxRecDepth 8000
set_option linter.unusedSimpArgs false
namespace Go.Proofs
open Go.RowKit Go.Moor Go.Proofs.Tryz Go.Moor
theorem nK:(prog.info? 34).map (·.size)=some 8:=by kernel_rfl
def an (l:List Int):Array Value:=(l.map (Value.int .i64)).toArray
theorem gS (l:List Int):(an l).all (·.oneCell')=true:=by grind[an,ints_oneCell]
theorem kx (l:List Int):(an l).size=l.length:=by simp[an]
theorem sk (l:List Int) (j:Nat) (h:j<l.length):(an l)[j]?=some (.int .i64 l[j]):=by simp[an,h]
theorem xR (l:List Int) (j:Nat) (x:Int):(an l).setIfInBounds j (.int .i64 x)=an (l.set j x):=by simp[an]
structure Tryz.SixIs (w wr:World) (ps:List Int):Prop where
 below:Below w.heap.size w wr
 res:wr.heap[w.heap.size]?=some (.cells (an zero8) 34 (0,0))
 out:wr.heap[w.heap.size+1]?=some (.cells (an (az ps)) 34 (0,0))
 size:w.heap.size+2<=wr.heap.size
theorem Tryz.SixIs.on {w wr w':World} {a:List Int} (h:SixIs w wr a) (b:Bl wr w'):SixIs w w' a:=
 ⟨h.below.trans (b.mono (by have:=h.size;omega)),(b.block _ (by have:=h.size;omega)).trans h.res,(b.block _ (by have:=h.size;omega)).trans h.out,bu h.size b.size⟩
theorem Tryz.SixIs.drew {w wr:World} {a:List Int} (h:SixIs w wr a):SixIs w wr.drew a:=h.on (ai _ _).drew
theorem Tryz.SixIs.put {w wr:World} {a c:List Int} (h:SixIs w wr a) (j:Nat) (x:Int) (d:(az a).set j x=az c):SixIs w (wr.setCell ⟨w.heap.size+1,j,none⟩ (.int .i64 x)) c:=by
 have e:=BS wr (w.hz+1) j _ _ _ (Iv x) h.out;have b:=bH wr (w.hz+1) (an (az a)) ((an (az a)).setIfInBounds j (Iv x)) 34 (0,0) h.out;rw[<-e,xR,d] at b;refine⟨h.below.setCell (by simp) _,?_,b,?_⟩
 .rw[e,BT wr (w.hz+1) w.hz _ (by omega)]
  exact h.res
 .grind
theorem Tryz.SixIs.at {w wr:World} {a:List Int} (h:Tryz.SixIs w wr a) (j:Nat) (c:j<8) (d:a.length<=8):∃x,wr.cell? ⟨w.heap.size+1,j,none⟩=some (.int .i64 x):=by
 have b:j<(az a).length:=by rw[dX a d];exact c
 refine⟨(az a)[j],?_⟩;rw[dD wr _ j _ _ (0,0) h.out,sk _ _ b]
structure Tryz.SixMv (w wr:World) (ps:List Int) (m:Nat) (row:List Int):Prop where
 is:Tryz.SixIs w wr ps
 row:wr.heap[m]?=some (.cells (an row) 34 (0,0))
 apart:w.heap.size+2<=m
theorem Tryz.SixMv.put {w wr:World} {c:List Int} {m:Nat} {row b:List Int} (h:SixMv w wr c m row) (j:Nat) (x:Int) (f:row.set j x=b):SixMv w (wr.setCell ⟨m,j,none⟩ (.int .i64 x)) c m b:=by
 have e:=BS wr m j _ _ _ (Iv x) h.row;have a:=bH wr m (an row) ((an row).setIfInBounds j (Iv x)) 34 (0,0) h.row;rw[<-e,xR,f] at a;have d:=h.apart;refine⟨⟨h.is.below.setCell (by grind) _,?_,?_,?_⟩,a,d⟩
 .rw[e,BT wr m w.heap.size _ (by omega)]
  exact h.is.res
 .rw[e,BT wr m (w.heap.size+1) _ (by omega)]
  exact h.is.out
 .grind
theorem Tryz.SixMv.drew {w wr:World} {a:List Int} {m:Nat} {row:List Int} (h:SixMv w wr a m row):SixMv w wr.drew a m row:=⟨h.is.drew,h.row,h.apart⟩
theorem Tryz.SixMv.at {w wr:World} {b:List Int} {m:Nat} {row:List Int} (h:Tryz.SixMv w wr b m row) (j:Nat) (a:j<row.length):∃x,wr.cell? ⟨m,j,none⟩=some (.int .i64 x):=by refine⟨row[j],?_⟩;rw[dD wr _ j _ _ (0,0) h.row,sk _ _ a]
theorem Tryz.SixIs.piece {w wr:World} {a:List Int} (h:Tryz.SixIs w wr a) (j:Nat) (c:j<a.length) (d:a.length<=8):wr.cell? ⟨w.heap.size+1,j,none⟩=some (.int .i64 a[j]):=by
 have b:j<(az a).length:=by rw[dX a d];omega
 rw[dD wr _ j _ _ (0,0) h.out,sk _ _ b];have:=Io a j c;rw[bY b] at this;rw[eh this]
def lm (o:Option Nat):Int:=match o with|none=> -1|some k=>(k:Int)
def sn (o:Option (List Int)) (e:Ending):Prop:=
 match o with
 |some ps=>e=.returned (.tuple #[.agg (an ps),.bool true])
 |none=>∃l:List Int,l.length=8/\e=.returned (.tuple #[.agg (an l),.bool false])
theorem Ii (s:ByteArray) (w:World) (hs:s.size<=4000):Calls prog 116 #[.string s] w λe w'=>sn (ms s.data.toList) e/\Bl w w':=by
 have HHX:Hid (∀(c:UInt8) w1,Calls Tryz.prog 66 #[.int .u8 c.toNat] w1 λe w'=>e=.returned (.int .i64 (cR c))/\w'=w1):=λc w1=>pF c w1;obtain⟨l,hl⟩:∃l,l=s.data.toList:=⟨_,rfl⟩;have HLN:Hid (l.length=s.size):=by show _=_;rw[hl,bT];rfl
 have HG:Hid (∀(k:Nat) (h:k<s.size) (h2:k<l.length),l[k]=s[k]):=by intro k h h2;subst hl;simp;rfl
 have HLA:Hid (∀(k:Nat) w1,k<=s.size->Calls Tryz.prog 171 #[.string (s.extract k s.size)] w1 λe w'=>sw (cB (l.drop k)) e/\Below w1.heap.size w1 w'):=by intro k w1 hk;have e:=fJ s k s.size;rw[<-hl,cg (by rw[cm,HLN.out];omega)] at e;have:=Jm (s.extract k s.size) w1 (by simp;omega);rw[e] at this⊢;exact this
 rw[<-hl];clear hl;suffices key:∀(res:Option (List Int)),Hid (res=ms l)->Calls Tryz.prog 116 #[.string s] w λe w'=>sn res e/\Below w.heap.size w w' from key _ rfl
 intro res HRES;obtain⟨W,hW⟩:∃W,W=(w.alloc (.cells #[.int .i64 0,.int .i64 0,.int .i64 0,.int .i64 0,.int .i64 0,.int .i64 0,.int .i64 0,.int .i64 0] 34)).alloc (.cells #[.int .i64 0,.int .i64 0,.int .i64 0,.int .i64 0,.int .i64 0,.int .i64 0,.int .i64 0,.int .i64 0] 34):=⟨_,rfl⟩;have HIS:Hid (Tryz.SixIs w W []):=by
  show Tryz.SixIs w W [];rw[hW];refine⟨((ai _ w).alloc (aG _) _).alloc (by simp) _,?_,?_,by simp⟩
  .simp only[World.alloc,mN,uj]
   rw[ab (by omega),ae trivial];rfl
  .simp only[World.alloc,mN,uj]
   rw[ae trivial];rfl
 go_enter Tryz.func116,Tryz.ntmps116;go_upto_region 5 with fail;rw[<-hW];clear hW;obtain⟨col,hcol⟩:∃col:Bool,col=decide (l.head? =some 58):=⟨_,rfl⟩;have HCOL:Hid (col=decide (l.head? =some 58)):=hcol;clear hcol;go_cut [22] from 15 to 31 (λb wx=>b=.bool col/\wx=W)
 case first=>
  by_cases h0:0<s.size
  .have h0i:(0:Int)<(s.size:Int):=by omega
   have h02:0<l.length:=(by rw[HLN.out];exact h0);have hg:=HG.out 0 h0 h02;have hhd:l.head? =some s[0]:=(by rw[mO,bY h02,hg]);have HC2:Hid (col=((s[0].toNat:Int)==58)):=by
    show _=_;rw[HCOL.out,hhd,ki,dM,kX];constructor
    .intro h;rw[eh h];rfl
    .intro h;exact aB some (cU.1 (by show s[0].toNat=58;omega))
   clear hg hhd;cases hc:((s[0].toNat:Int)==58);all_goals
    rw[hc] at HC2;go_wp2;go_meet;exact⟨by rw[HC2.out],rfl⟩
  .have h0i:¬(0:Int)<(s.size:Int):=by omega
   have HC2:Hid (col=false):=(by show _=_;rw[HCOL.out];have:l=[]:=oy.1 (by have:=HLN.out;omega);rw[this];rfl);go_wp2;go_meet;exact⟨by rw[HC2.out],rfl⟩
 case rest=>
 obtain⟨rfl,hwc⟩:=hcut;have hwc:=hwc.symm;subst hwc;go_upto_if 22 with fail
 go_cut [5,6,7] from 15 to 31 (λa b c wx=>∃(ps:List Int) (sh:Option Nat) (i:Nat) (f:Nat),a=.int .i64 (ps.length:Nat)/\b=.int .i64 (lm sh)/\c=.int .i64 (i:Nat)/\i<=s.size/\l.length- i<f/\ps.length<=8/\(∀k,sh=some k->1<=k/\k<=ps.length)/\res=fu (bM f (l.drop i) ps sh)/\Tryz.SixIs w W ps/\wx=W)
 case first=>
  cases col with
  |false=>
   have HR:Hid (res=fu (bM (l.length+1) l [] none)):=by
    show _=_;rw[HRES.out];have hc:¬l.head? =some 58:=(by simpa using HCOL.out.symm);unfold ms;split
    .exact absurd rfl hc
    .exact absurd rfl hc
    .rfl
   go_wp2;go_meet;exact⟨[],none,0,l.length+1,rfl,rfl,rfl,aR _,by omega,by simp,(λk h=>by cases h),HR.out,HIS.out,rfl⟩
  |true=>
   have hc:l.head? =some 58:=(by simpa using HCOL.out.symm);obtain⟨r,hr⟩:∃r,l=58::r:=by
    cases l with
    |nil=>simp at hc
    |cons x r=>simp at hc;exact⟨r,by rw[hc]⟩
   by_cases h2:r.head? =some 58
   .obtain⟨r2,hr2⟩:∃r2,r=58::r2:=by
     cases r with
     |nil=>simp at h2
     |cons x r=>simp at h2;exact⟨r,by rw[h2]⟩
    have HR:Hid (res=fu (bM (l.length+1) (l.drop 2) [0] (some 1))):=(by show _=_;rw[HRES.out,hr,hr2];rfl);have hl2:2<=l.length:=(by rw[hr,hr2];simp);have hs2:2<=s.size:=(by rw[<-HLN.out];exact hl2);have hs2i:¬(s.size:Int)<2:=(by omega);have h1s:1<s.size:=(by omega);have h58:((s[1].toNat:Int)==58)=true:=(by have hg:=HG.out 1 h1s (by omega);have:l[1]?=some 58:=(by rw[hr,hr2];rfl);rw[bY (by omega),hg] at this;rw[eh this];rfl);have HIN:Hid (Tryz.SixIs w W [0]):=⟨HIS.out.below,HIS.out.res,HIS.out.out,HIS.out.size⟩;clear hr hr2 h2 hc;go_wp2;go_meet;exact⟨[0],some 1,2,l.length+1,rfl,rfl,rfl,hs2,by omega,by simp,(λk h=>by cases h;exact⟨aG _,aG _⟩),HR.out,HIN.out,rfl⟩
   .have HN:Hid (res=none):=by
     show _=_;rw[HRES.out,hr];cases r with
     |nil=>rfl
     |cons x r=>
      have hx:x≠58:=λh=>h2 (by rw[h];rfl);unfold ms;split
      .rename_i h;injection h with _ h;injection h with h _;exact absurd h hx
      .rfl
      .rename_i h;exact absurd rfl (h _)
    have HP8:Hid ((Tryz.prog.info? 34).map (·.size)=some (an (az [])).size):=nK;have HP88:Hid ((an zero8).size=(an (az [])).size):=rfl;by_cases h1:s.size<2
    .have h1i:(s.size:Int)<2:=by omega
     clear hr h2 hc;go_wp2_with(first|refine cb rfl 34 _ rfl (w.heap.size+1) rfl 34 (an (az [])) (0,0) _ HIS.out.out eH rfl HP8.out ?_|refine aY rfl 34 _ _ rfl w.heap.size (an (az [])) rfl rfl 34 (an zero8) HIS.out.res HP8.out HP88.out (gS _) ?_);(try simp only[Exit.inBlock,Exit.then]);have hld:=bQ (P:=Tryz.prog) (W.setRow w.heap.size (an (az []))) w.heap.size 34 34 (an (az [])) (0,0) _ (bH W w.heap.size (an zero8) (an (az [])) 34 (0,0) HIS.out.res) eH rfl HP8.out;refine aO (v:=.tuple #[.agg (an (az [])),.bool false]) ?_ rfl ⟨(by rw[HN.out];exact⟨_,by first|exact dX _ hp|exact dX _ hp9|rfl,rfl⟩),aZ HIS.out.below (aG _) _⟩;rw[bR rfl];simp[asAddr,Result.andThen,hld]
    .have h1i:¬(s.size:Int)<2:=by omega
     have h1s:1<s.size:=(by omega);have h58:((s[1].toNat:Int)==58)=false:=(by rw[aL];intro h;apply h2;have hlt:1<l.length:=(by rw[HLN.out];exact h1s);have hg:=HG.out 1 h1s hlt;have e:r.head? =l[1]?:=(by rw[hr,mO];rfl);rw[e,bY hlt,hg];exact aB some (cU.1 (by show s[1].toNat=58;omega)));clear hr h2 hc;go_wp2_with(first|refine cb rfl 34 _ rfl (w.heap.size+1) rfl 34 (an (az [])) (0,0) _ HIS.out.out eH rfl HP8.out ?_|refine aY rfl 34 _ _ rfl w.heap.size (an (az [])) rfl rfl 34 (an zero8) HIS.out.res HP8.out HP88.out (gS _) ?_);(try simp only[Exit.inBlock,Exit.then]);have hld:=bQ (P:=Tryz.prog) (W.setRow w.heap.size (an (az []))) w.heap.size 34 34 (an (az [])) (0,0) _ (bH W w.heap.size (an zero8) (an (az [])) 34 (0,0) HIS.out.res) eH rfl HP8.out;refine aO (v:=.tuple #[.agg (an (az [])),.bool false]) ?_ rfl ⟨(by rw[HN.out];exact⟨_,by first|exact dX _ hp|exact dX _ hp9|rfl,rfl⟩),aZ HIS.out.below (aG _) _⟩;rw[bR rfl];simp[asAddr,Result.andThen,hld]
 case rest=>
 obtain⟨ps0,sh0,i0,f0,rfl,rfl,rfl,hi0,hf0,hp0,hsh0,hr0,his0,hwc⟩:=hcut;have hwc:=hwc.symm;subst hwc;clear HIS HCOL HRES;have HR0:Hid (res=fu (bM f0 (l.drop i0) ps0 sh0)):=hr0;have HS0:Hid (∀k,sh0=some k->1<=k/\k<=ps0.length):=hsh0;have HI0:Hid (Tryz.SixIs w W ps0):=his0;clear hr0 hsh0 his0;have HP8A:Hid (∀qs:List Int,qs.length<=8->(Tryz.prog.info? 34).map (·.size)=some (an (az qs)).size):=by intro qs h;rw[kx,dX qs h];exact nK
 have HP88A:Hid (∀qs:List Int,qs.length<=8->(an zero8).size=(an (az qs)).size):=by intro qs h;rw[kx (az qs),dX qs h];rfl
 go_upto_block 0 with fail;go_cut [5,6,7,8,9,10,11] from 15 to 139 (λa b c d e f g wx=>∃(ps:List Int) (sh:Option Nat),a=.int .i64 (ps.length:Nat)/\b=.int .i64 (lm sh)/\ps.length<=8/\(∀k,sh=some k->1<=k/\k<=ps.length)/\res=fu (some (ps,sh))/\Tryz.SixIs w wx ps)
 case first=>
  go_wp2_with fail;go_loopw [5,6,7] (λa b c wr=>∃(ps:List Int) (sh:Option Nat) (i f:Nat),a=.int .i64 (ps.length:Nat)/\b=.int .i64 (lm sh)/\c=.int .i64 (i:Nat)/\i<=s.size/\l.length- i<f/\ps.length<=8/\(∀k,sh=some k->1<=k/\k<=ps.length)/\res=fu (bM f (l.drop i) ps sh)/\Tryz.SixIs w wr ps) (λ_ _ i _=>s.size-(intOf i).toNat)
  case atStart=>exact⟨ps0,sh0,i0,f0,rfl,rfl,rfl,hi0,hf0,hp0,HS0.out,HR0.out,HI0.out⟩
  case round=>
   obtain⟨ps,sh,i,f,rfl,rfl,rfl,hi,hf,hp,hsh,hr,his⟩:=hrel;have HR:Hid (res=fu (bM f (l.drop i) ps sh)):=hr;have HSH:Hid (∀k,sh=some k->1<=k/\k<=ps.length):=hsh;have HIS:Hid (Tryz.SixIs w wr ps):=his;have HP8:Hid _:=HP8A.out ps hp;have HP88:Hid _:=HP88A.out ps hp;clear hr hsh his HR0 HS0 HI0 hi0 hf0 hp0;by_cases hlt:i<s.size
   .obtain⟨f',hf'⟩:∃f',f=f'+1:=⟨f- 1,by omega⟩
    subst hf';have hil:i<l.length:=(by rw[HLN.out];exact hlt);have HDR:Hid (l.drop i=s[i]::l.drop (i+1)):=by show _=_;rw[ch hil,HG.out i hlt hil]
    have hff:l.length-(i+1)<f':=(by omega);have HFF:Hid (l.length-(i+1)<f'):=hff;clear hff hf hil;by_cases h8:ps.length=8
    .have HN:Hid (res=none):=by
      show _=_;rw[HR.out,HDR.out,Iw _ _ _ _ _ h8];rfl
     have h8i:((ps.length:Int)==8)=true:=(by rw[h8];rfl);clear h8;go_wp2_with(first|refine cb rfl 34 _ rfl (w.heap.size+1) rfl 34 (an (az ps)) (0,0) _ HIS.out.out eH rfl HP8.out ?_|refine aY rfl 34 _ _ rfl w.heap.size (an (az ps)) rfl rfl 34 (an zero8) HIS.out.res HP8.out HP88.out (gS _) ?_);(try simp only[Exit.inBlock,Exit.then]);have hld:=bQ (P:=Tryz.prog) (wr.setRow w.heap.size (an (az ps))) w.heap.size 34 34 (an (az ps)) (0,0) _ (bH wr w.heap.size (an zero8) (an (az ps)) 34 (0,0) HIS.out.res) eH rfl HP8.out;refine aO (v:=.tuple #[.agg (an (az ps)),.bool false]) ?_ rfl ⟨(by rw[HN.out];exact⟨_,by first|exact dX _ hp|exact dX _ hp9|rfl,rfl⟩),aZ HIS.out.below (aG _) _⟩;rw[bR rfl];simp[asAddr,Result.andThen,hld]
    .have h8i:((ps.length:Int)==8)=false:=by rw[aL];omega
     have hp7:ps.length<8:=(by omega);by_cases h58:s[i]=58
     .have h58i:((s[i].toNat:Int)==58)=true:=by rw[h58];rfl
      have HST:Hid (bM (f'+1) (l.drop i) ps sh=if sh.isSome then none else bM f' (l.drop (i+1)) (ps++ [0]) (some (ps.length+1))):=(by show _=_;rw[HDR.out,h58];exact Ix _ _ _ _ h8);clear h58 h8;cases sh with
      |some k=>have HN:Hid (res=none):=(by show _=_;rw[HR.out,HST.out];rfl);have hk0:(0:Int)<=lm (some k):=(by show(0:Int)<=(k:Int);omega);clear HST;go_wp2_with(first|refine cb rfl 34 _ rfl (w.heap.size+1) rfl 34 (an (az ps)) (0,0) _ HIS.out.out eH rfl HP8.out ?_|refine aY rfl 34 _ _ rfl w.heap.size (an (az ps)) rfl rfl 34 (an zero8) HIS.out.res HP8.out HP88.out (gS _) ?_);(try simp only[Exit.inBlock,Exit.then]);have hld:=bQ (P:=Tryz.prog) (wr.setRow w.heap.size (an (az ps))) w.heap.size 34 34 (an (az ps)) (0,0) _ (bH wr w.heap.size (an zero8) (an (az ps)) 34 (0,0) HIS.out.res) eH rfl HP8.out;refine aO (v:=.tuple #[.agg (an (az ps)),.bool false]) ?_ rfl ⟨(by rw[HN.out];exact⟨_,by first|exact dX _ hp|exact dX _ hp9|rfl,rfl⟩),aZ HIS.out.below (aG _) _⟩;rw[bR rfl];simp[asAddr,Result.andThen,hld]
      |none=>
       have HRN:Hid (res=fu (bM f' (l.drop (i+1)) (ps++ [0]) (some (ps.length+1)))):=(by show _=_;rw[HR.out,HST.out];rfl);have hk0:lm none= -1:=rfl;have HIN:Hid (Tryz.SixIs w wr (ps++ [0])):=⟨HIS.out.below,HIS.out.res,by rw[In ps hp7];exact HIS.out.out,HIS.out.size⟩;rw[hk0];clear HST hk0;go_wp2;go_roundw
       case rel=>exact⟨ps++ [0],some (ps.length+1),i+1,f',by simp,by(try rfl),by go_num,by omega,HFF.out,by simp;omega,(λk h=>by cases h;simp),HRN.out,HIN.out⟩
       case measure=>(simp[intOf];try omega)
     .have h58i:((s[i].toNat:Int)==58)=false:=by
       rw[aL];intro h;exact h58 (cU.1 (by show s[i].toNat=58;omega))
      obtain⟨T,hT⟩:∃T,T=bA 4 (l.drop i):=⟨_,rfl⟩;have HT:Hid (T=bA 4 (l.drop i)):=hT;obtain⟨hTh,hT4⟩:=Il (l.drop i);rw[<-hT] at hTh hT4;have HTH:Hid (∀c∈T,aw c.toNat<16):=hTh;clear hT hTh;obtain⟨V,hV⟩:∃V,V=wr:=⟨_,rfl⟩;subst hV;obtain⟨p,hpp⟩:∃p,p=i+T.length:=⟨_,rfl⟩;have HPP:Hid (p=i+T.length):=hpp;have hple:p<=s.size:=by have h1:=xV l i T HT.out (by rw[HLN.out];omega);rw[HLN.out] at h1;rcases h1 with h1|⟨h1,_⟩|⟨h1,_⟩<;>omega
      obtain⟨v,hv⟩:∃v,v=eF 0 T:=⟨_,rfl⟩;have HVV:Hid (v=eF 0 T):=hv;clear hpp hv;go_upto_block 2 with fail;go_cut [7,9] from 32 to 139 (λa b wx=>a=.int .i64 (p:Nat)/\b=.int .i64 v/\wx=V)
      case first=>
       go_wp2_with fail;go_loopw [7,9] (λa b wr=>∃j q:Nat,q=i+j/\j<=T.length/\a=.int .i64 (q:Nat)/\b=.int .i64 (eF 0 (T.take j))/\wr=V) (λa _ _=>s.size-(intOf a).toNat)
       case atStart=>exact⟨0,i,rfl,aR _,rfl,rfl,rfl⟩
       case round=>
        obtain⟨j,q,hq,hj,rfl,rfl,hwr⟩:=hrel;have hwr:=hwr.symm;subst hwr;have HQ:Hid (q=i+j):=hq;have hqi:(q:Int)-(i:Int)=(j:Int):=(by omega);have hsm:=xU (T.take j) (λc hc=>HTH.out c (uh hc)) (by rw[cL];omega);obtain⟨u,hu⟩:∃u,u=eF 0 (T.take j):=⟨_,rfl⟩;rw[<-hu] at hsm⊢;have HU:Hid (u=eF 0 (T.take j)):=hu;obtain⟨hu0,hu1⟩:=hsm;clear hu;by_cases hjt:j<T.length
        .obtain⟨c,h2,h3,h4,h5⟩:=Im l i j T HT.out hjt
         rw[<-HQ.out] at h2;obtain⟨hqs2,hqe⟩:=dN.1 h2;have hqs:q<s.size:=(by rw[<-HLN.out];exact hqs2);have e:c=s[q]:=(by rw[<-hqe];exact HG.out q hqs hqs2);subst e;obtain⟨e1,e2,e3⟩:=ln s[q] h3;have HD:Hid _:=HHX.out s[q] V;have HNX:Hid (eF 0 (T.take (j+1))=16*u+cR s[q]):=by show _=_;rw[h4,xS,HU.out,e1]
         have hqsi:(q:Int)<(s.size:Int):=(by omega);have hj4:(j:Int)<4:=(by omega);generalize cR s[q]=d at*;have hw1:IntKind.i64.wrap (16*u)=16*u:=jP _ (by omega) (by omega);have hw2:IntKind.i64.wrap (16*u+d)=16*u+d:=jP _ (by omega) (by omega);clear e1 h2 h3 h4 hq hqe hqs2;go_wp2_with fail;refine af HD.out ?_;rintro e W0 ⟨rfl,hw0⟩;have hw0:=hw0.symm;subst hw0;go_wp2_with fail;refine af HD.out ?_;rintro e W0 ⟨rfl,hw0⟩;have hw0:=hw0.symm;subst hw0;go_wp2;go_roundw
         case rel=>exact⟨j+1,q+1,by have:=HQ.out;omega,by omega,by go_num,by first|(rw[HNX.out];done)|(rw[HNX.out];exact aB (Value.int .i64) (by unfold wrap64;omega)),trivial⟩
         case measure=>(simp[intOf];try omega)
        .have hje:j=T.length:=by omega
         have HQP:Hid (q=p):=(by have:=HQ.out;have:=HPP.out;show q=p;omega);have HUV:Hid (u=v):=(by show _=_;rw[HU.out,HVV.out,cg (by omega)]);have hof:=xV l i T HT.out (by rw[HLN.out];omega);rw[<-hje,<-HQ.out,HLN.out] at hof;clear hq hje;rcases hof with h1|⟨h1,h2⟩|⟨h1,h2,c,h3,h4⟩
         .have hqsi:¬(q:Int)<(s.size:Int):=by omega
          clear h1;go_wp2;go_meet;exact⟨by rw[HQP.out],by rw[HUV.out],rfl⟩
         .have hqsi:(q:Int)<(s.size:Int):=by omega
          have hj4:¬(j:Int)<4:=(by omega);clear h1 h2;go_wp2;go_meet;exact⟨by rw[HQP.out],by rw[HUV.out],rfl⟩
         .have hqsi:(q:Int)<(s.size:Int):=by omega
          have hj4:(j:Int)<4:=(by omega);obtain⟨hqs2,hqe⟩:=dN.1 h3;have hqs:q<s.size:=h1;have e:c=s[q]:=(by rw[<-hqe];exact HG.out q hqs hqs2);subst e;have HD:Hid _:=HHX.out s[q] V;rw[pJ s[q] h4] at HD;clear h1 h2 h3 h4 hqe hqs2;go_wp2_with fail;refine af HD.out ?_;rintro e W0 ⟨rfl,hw0⟩;have hw0:=hw0.symm;subst hw0;go_wp2;go_meet;exact⟨by rw[HQP.out],by rw[HUV.out],rfl⟩
      case rest=>
      obtain⟨rfl,rfl,hwc⟩:=hcut;have hwc:=hwc.symm;subst hwc;have hvr:=xU T HTH.out hT4;rw[<-HVV.out] at hvr;obtain⟨hv0,hv1⟩:=hvr;have HTT:Hid ((l.drop i).drop T.length=l.drop p):=by show _=_;rw[fQ,<-HPP.out]
      by_cases hps:p<s.size
      .have hpl:p<l.length:=by rw[HLN.out];exact hps
       have HDP:Hid (l.drop p=s[p]::l.drop (p+1)):=(by show _=_;rw[ch hpl,HG.out p hps hpl]);have hpsi:(p:Int)<(s.size:Int):=(by omega);clear hpl;by_cases h46:s[p]=46
       .have h46i:((s[p].toNat:Int)==46)=true:=by rw[h46];rfl
        have HST:Hid (bM (f'+1) (l.drop i) ps sh=match cB (l.drop i) with|some a=>if ps.length<=6 then some (ps++ [a/65536,a%65536],sh) else none|none=>none):=(by show _=_;have h1:((l.drop i).drop (bA 4 (l.drop i)).length).head? =some 46:=(by rw[<-HT.out,HTT.out,HDP.out,h46];rfl);rw[HDR.out] at h1⊢;exact Iy _ _ _ _ _ h8 h58 h1);have HL:Hid _:=HLA.out i V (by omega);clear h46;cases hsd:cB (l.drop i) with
        |none=>have HN:Hid (res=none):=(by show _=_;rw[HR.out,HST.out,hsd];rfl);rw[hsd] at HL;clear hsd HST h58 h8;go_wp2_with fail;refine af HL.out ?_;rintro e w1 ⟨⟨m,rfl⟩,b1⟩;have HIS:Hid (Tryz.SixIs w w1 ps):=HIS.out.on b1;clear b1;go_wp2_with(first|refine cb rfl 34 _ rfl (w.heap.size+1) rfl 34 (an (az ps)) (0,0) _ HIS.out.out eH rfl HP8.out ?_|refine aY rfl 34 _ _ rfl w.heap.size (an (az ps)) rfl rfl 34 (an zero8) HIS.out.res HP8.out HP88.out (gS _) ?_);(try simp only[Exit.inBlock,Exit.then]);have hld:=bQ (P:=Tryz.prog) (w1.setRow w.heap.size (an (az ps))) w.heap.size 34 34 (an (az ps)) (0,0) _ (bH w1 w.heap.size (an zero8) (an (az ps)) 34 (0,0) HIS.out.res) eH rfl HP8.out;refine aO (v:=.tuple #[.agg (an (az ps)),.bool false]) ?_ rfl ⟨(by rw[HN.out];exact⟨_,by first|exact dX _ hp|exact dX _ hp9|rfl,rfl⟩),aZ HIS.out.below (aG _) _⟩;rw[bR rfl];simp[asAddr,Result.andThen,hld]
        |some a=>
         have hra:=th _ _ hsd;obtain⟨ha0,ha1⟩:=hra;rw[hsd] at HL;have HA1:Hid (a<4294967296):=ha1;clear ha1;by_cases h6:ps.length<=6
         .have HRS:Hid (res=fu (some (ps++ [a/65536,a%65536],sh))):=by
           show _=_;rw[HR.out,HST.out,hsd];simp only;rw[ae h6]
          clear hsd HST h58 h8;have h6i:¬(6:Int)<(ps.length:Int):=(by omega);go_wp2_with fail;refine af HL.out ?_;rintro e w1 ⟨hle,b1⟩;have hle:e=_:=hle;subst hle;have HI1:Hid (Tryz.SixIs w w1 ps):=HIS.out.on b1;clear b1;obtain⟨x1,hx1⟩:=HI1.out.at ps.length (by omega) hp;have fz1:=aj HI1.out.out ps.length;have HI2:Hid (Tryz.SixIs w (w1.setCell ⟨w.heap.size+1,ps.length,none⟩ (.int .i64 (a/65536))) (ps++ [a/65536])):=HI1.out.put _ _ (nL ps _ (by omega));obtain⟨x2,hx2⟩:=HI2.out.at (ps.length+1) (by omega) (by simp;omega);have fz2:=aj HI2.out.out (ps.length+1);have HI3:Hid (Tryz.SixIs w ((w1.setCell ⟨w.heap.size+1,ps.length,none⟩ (.int .i64 (a/65536))).setCell ⟨w.heap.size+1,ps.length+1,none⟩ (.int .i64 (a%65536))) (ps++ [a/65536,a%65536])):=by have h:=nL (ps++ [a/65536]) (a%65536) (by simp;omega);rw[cC,eU] at h;exact HI2.out.put _ _ h
          have htd:a.tdiv 65536=a/65536:=Int.tdiv_eq_ediv_of_nonneg ha0;have htm:a.tmod 65536=a%65536:=BU ha0;have hw1:wrap64 (a/65536)=a/65536:=(by have:=HA1.out;unfold wrap64;omega);go_wp2;go_meet;exact⟨ps++ [a/65536,a%65536],sh,by simp,rfl,by simp;omega,(λk h=>by have:=HSH.out k h;simp;omega),HRS.out,HI3.out⟩
         .have HN:Hid (res=none):=by
           show _=_;rw[HR.out,HST.out,hsd];simp only;rw[ab h6];rfl
          clear hsd HST h58 h8;have h6i:(6:Int)<(ps.length:Int):=(by omega);go_wp2_with fail;refine af HL.out ?_;rintro e w1 ⟨hle,b1⟩;have hle:e=_:=hle;subst hle;have HIS:Hid (Tryz.SixIs w w1 ps):=HIS.out.on b1;clear b1;go_wp2_with(first|refine cb rfl 34 _ rfl (w.heap.size+1) rfl 34 (an (az ps)) (0,0) _ HIS.out.out eH rfl HP8.out ?_|refine aY rfl 34 _ _ rfl w.heap.size (an (az ps)) rfl rfl 34 (an zero8) HIS.out.res HP8.out HP88.out (gS _) ?_);(try simp only[Exit.inBlock,Exit.then]);have hld:=bQ (P:=Tryz.prog) (w1.setRow w.heap.size (an (az ps))) w.heap.size 34 34 (an (az ps)) (0,0) _ (bH w1 w.heap.size (an zero8) (an (az ps)) 34 (0,0) HIS.out.res) eH rfl HP8.out;refine aO (v:=.tuple #[.agg (an (az ps)),.bool false]) ?_ rfl ⟨(by rw[HN.out];exact⟨_,by first|exact dX _ hp|exact dX _ hp9|rfl,rfl⟩),aZ HIS.out.below (aG _) _⟩;rw[bR rfl];simp[asAddr,Result.andThen,hld]
       .have h46i:((s[p].toNat:Int)==46)=false:=by
         rw[aL];intro h;exact h46 (cU.1 (by show s[p].toNat=46;omega))
        by_cases ht0:T=[]
        .have HN:Hid (res=none):=by
          show _=_;have h1:¬((l.drop i).drop (bA 4 (l.drop i)).length).head? =some 46:=by rw[<-HT.out,HTT.out,HDP.out];intro h;exact h46 (eh h)
          have h2:=HT.out;rw[ht0] at h2;rw[HR.out];rw[HDR.out] at h1 h2⊢;rw[Iz _ _ _ _ _ h8 h58 h1 h2.symm];rfl
         have hpi:p=i:=(by rw[HPP.out,ht0];rfl);have hpe:((p:Int)==(i:Int))=true:=(by rw[hpi];simp);clear ht0 h46 hpi h58 h8;go_wp2_with(first|refine cb rfl 34 _ rfl (w.heap.size+1) rfl 34 (an (az ps)) (0,0) _ HIS.out.out eH rfl HP8.out ?_|refine aY rfl 34 _ _ rfl w.heap.size (an (az ps)) rfl rfl 34 (an zero8) HIS.out.res HP8.out HP88.out (gS _) ?_);(try simp only[Exit.inBlock,Exit.then]);have hld:=bQ (P:=Tryz.prog) (V.setRow w.heap.size (an (az ps))) w.heap.size 34 34 (an (az ps)) (0,0) _ (bH V w.heap.size (an zero8) (an (az ps)) 34 (0,0) HIS.out.res) eH rfl HP8.out;refine aO (v:=.tuple #[.agg (an (az ps)),.bool false]) ?_ rfl ⟨(by rw[HN.out];exact⟨_,by first|exact dX _ hp|exact dX _ hp9|rfl,rfl⟩),aZ HIS.out.below (aG _) _⟩;rw[bR rfl];simp[asAddr,Result.andThen,hld]
        .have hT0:0<T.length:=iK.2 ht0
         have hpe:((p:Int)==(i:Int))=false:=(by rw[aL];have:=HPP.out;omega);have hpe2:((p:Int)==(s.size:Int))=false:=(by rw[aL];omega);have HST:Hid (bM (f'+1) (l.drop i) ps sh=if s[p]≠58\/l.drop (p+1)=[] then none else bM f' (l.drop (p+1)) (ps++ [v]) sh):=(by show _=_;have h1:(l.drop i).drop (bA 4 (l.drop i)).length=s[p]::l.drop (p+1):=(by rw[<-HT.out,HTT.out,HDP.out]);have h2:bA 4 (l.drop i)≠[]:=(by rw[<-HT.out];exact ht0);have h3:=HVV.out;rw[HT.out] at h3;rw[HDR.out] at h1 h2 h3⊢;rw[IB _ _ _ _ _ _ _ h8 h58 h46 h2 h1,<-h3]);obtain⟨x1,hx1⟩:=HIS.out.at ps.length (by omega) hp;have fz1:=aj HIS.out.out ps.length;obtain⟨V2,hV2⟩:∃V2,V2=V.setCell ⟨w.heap.size+1,ps.length,none⟩ (.int .i64 v):=⟨_,rfl⟩;have HI2:Hid (Tryz.SixIs w V2 (ps++ [v])):=(by show Tryz.SixIs w V2 (ps++ [v]);rw[hV2];exact HIS.out.put _ _ (nL ps _ (by omega)));have HV2:Hid (V2=V.setCell ⟨w.heap.size+1,ps.length,none⟩ (.int .i64 v)):=hV2;clear hV2;have hp9:(ps++ [v]).length<=8:=(by simp;omega);have hpn:(ps++ [v]).length=ps.length+1:=(by simp);clear ht0 h46 h58 h8;by_cases hc:s[p]=58
         .have hci:(s[p].toNat:Int)=58:=by rw[hc];rfl
          by_cases hpe3:p+1=s.size
          .have hpe4:((p:Int)+1==(s.size:Int))=true:=by rw[dM];omega
           have HN:Hid (res=none):=(by show _=_;rw[HR.out,HST.out,ae (Or.inr (eW (by rw[HLN.out];omega)))];rfl);have HIS:Hid (Tryz.SixIs w (V.setCell ⟨w.heap.size+1,ps.length,none⟩ (.int .i64 v)) (ps++ [v])):=(by rw[<-HV2.out];exact HI2);have HP8:Hid _:=HP8A.out (ps++ [v]) hp9;have HP88:Hid _:=HP88A.out (ps++ [v]) hp9;clear HST hc hpe3;go_wp2_with(first|refine cb rfl 34 _ rfl (w.heap.size+1) rfl 34 (an (az (ps++[v]))) (0,0) _ HIS.out.out eH rfl HP8.out ?_|refine aY rfl 34 _ _ rfl w.heap.size (an (az (ps++[v]))) rfl rfl 34 (an zero8) HIS.out.res HP8.out HP88.out (gS _) ?_);(try simp only[Exit.inBlock,Exit.then]);have hld:=bQ (P:=Tryz.prog) ((V.setCell ⟨w.heap.size+1,ps.length,none⟩ (.int .i64 v)).setRow w.heap.size (an (az (ps++[v])))) w.heap.size 34 34 (an (az (ps++[v]))) (0,0) _ (bH (V.setCell ⟨w.heap.size+1,ps.length,none⟩ (.int .i64 v)) w.heap.size (an zero8) (an (az (ps++[v]))) 34 (0,0) HIS.out.res) eH rfl HP8.out;refine aO (v:=.tuple #[.agg (an (az (ps++[v]))),.bool false]) ?_ rfl ⟨(by rw[HN.out];exact⟨_,by first|exact dX _ hp|exact dX _ hp9|rfl,rfl⟩),aZ HIS.out.below (aG _) _⟩;rw[bR rfl];simp[asAddr,Result.andThen,hld]
          .have hpe4:((p:Int)+1==(s.size:Int))=false:=by rw[aL];omega
           have HRS:Hid (res=fu (bM f' (l.drop (p+1)) (ps++ [v]) sh)):=by
            show _=_;rw[HR.out,HST.out,ab];rintro(h|h)
            .exact h hc
            .have:=aB List.length h
             rw[cm,HLN.out,gK] at this;omega
           have HFN:Hid (l.length-(p+1)<f'):=(by have:=HFF.out;have:=HPP.out;show _<_;omega);clear HST hc;go_wp2;go_roundw
           case rel=>exact⟨ps++ [v],sh,p+1,f',by rw[hpn];(first|rfl|go_num),rfl,by go_num,by omega,HFN.out,hp9,(λk h=>by have:=HSH.out k h;rw[hpn];omega),HRS.out,by first|exact HI2.out|(rw[<-HV2.out];exact HI2.out)⟩
           case measure=>(simp[intOf];have:=HPP.out;try omega)
         .have hci:¬(s[p].toNat:Int)=58:=by
           intro h;exact hc (cU.1 (by show s[p].toNat=58;omega))
          have HN:Hid (res=none):=(by show _=_;rw[HR.out,HST.out,ae (Or.inl hc)];rfl);have HIS:Hid (Tryz.SixIs w (V.setCell ⟨w.heap.size+1,ps.length,none⟩ (.int .i64 v)) (ps++ [v])):=(by rw[<-HV2.out];exact HI2);have HP8:Hid _:=HP8A.out (ps++ [v]) hp9;have HP88:Hid _:=HP88A.out (ps++ [v]) hp9;clear HST hc;go_wp2_with(first|refine cb rfl 34 _ rfl (w.heap.size+1) rfl 34 (an (az (ps++[v]))) (0,0) _ HIS.out.out eH rfl HP8.out ?_|refine aY rfl 34 _ _ rfl w.heap.size (an (az (ps++[v]))) rfl rfl 34 (an zero8) HIS.out.res HP8.out HP88.out (gS _) ?_);(try simp only[Exit.inBlock,Exit.then]);have hld:=bQ (P:=Tryz.prog) ((V.setCell ⟨w.heap.size+1,ps.length,none⟩ (.int .i64 v)).setRow w.heap.size (an (az (ps++[v])))) w.heap.size 34 34 (an (az (ps++[v]))) (0,0) _ (bH (V.setCell ⟨w.heap.size+1,ps.length,none⟩ (.int .i64 v)) w.heap.size (an zero8) (an (az (ps++[v]))) 34 (0,0) HIS.out.res) eH rfl HP8.out;refine aO (v:=.tuple #[.agg (an (az (ps++[v]))),.bool false]) ?_ rfl ⟨(by rw[HN.out];exact⟨_,by first|exact dX _ hp|exact dX _ hp9|rfl,rfl⟩),aZ HIS.out.below (aG _) _⟩;rw[bR rfl];simp[asAddr,Result.andThen,hld]
      .have hpe2:p=s.size:=by omega
       have hT0:0<T.length:=(by have:=HPP.out;omega);have HRS:Hid (res=fu (some (ps++ [v],sh))):=(by show _=_;have h1:(l.drop i).drop (bA 4 (l.drop i)).length=[]:=(by rw[<-HT.out,HTT.out];exact eW (by rw[HLN.out];omega));have h2:bA 4 (l.drop i)≠[]:=(by rw[<-HT.out];exact iK.1 hT0);have h3:=HVV.out;rw[HT.out] at h3;rw[HR.out];rw[HDR.out] at h1 h2 h3⊢;rw[IA _ _ _ _ _ h8 h58 h2 h1,<-h3]);have hpsi:¬(p:Int)<(s.size:Int):=(by omega);have hpe:((p:Int)==(i:Int))=false:=(by rw[aL];omega);have hpe3:((p:Int)==(s.size:Int))=true:=(by rw[dM];omega);obtain⟨x1,hx1⟩:=HIS.out.at ps.length (by omega) hp;have fz1:=aj HIS.out.out ps.length;have HI2:Hid (Tryz.SixIs w (V.setCell ⟨w.heap.size+1,ps.length,none⟩ (.int .i64 v)) (ps++ [v])):=HIS.out.put _ _ (nL ps _ (by omega));clear h58 h8 hpe2;go_wp2;go_meet;exact⟨ps++ [v],sh,by simp,rfl,by simp;omega,(λk h=>by have:=HSH.out k h;simp;omega),HRS.out,HI2.out⟩
   .have HRS:Hid (res=fu (some (ps,sh))):=by
     show _=_;rw[HR.out,eW (by rw[HLN.out];omega)];obtain⟨f',hf'⟩:∃f',f=f'+1:=⟨f- 1,by omega⟩;rw[hf',Iu]
    go_wp2;go_meet;exact⟨ps,sh,rfl,rfl,hp,HSH.out,HRS.out,HIS.out⟩
 case rest=>
 obtain⟨ps,sh,rfl,rfl,hp,hsh,hr,his⟩:=hcut;have HR:Hid (res=fu (some (ps,sh))):=hr;have HSH:Hid (∀k,sh=some k->1<=k/\k<=ps.length):=hsh;have HIS:Hid (Tryz.SixIs w wc ps):=his;clear hr hsh his HR0 HS0 HI0 hi0 hf0 hp0 HLA HG;cases sh with
 |none=>
  have hk0:lm none= -1:=rfl;rw[hk0];clear hk0;by_cases h8:ps.length=8
  .have HRS:Hid (res=some (az ps)):=by
    show _=_;rw[HR.out,Ip ps h8];exact ae h8
   have h8i:((ps.length:Int)==8)=true:=(by rw[h8];rfl);have HP8:Hid _:=HP8A.out ps hp;have HP88:Hid _:=HP88A.out ps hp;have HRW:Hid _:=HIS.out.out;clear h8;go_wp2_with(first|refine cb rfl 34 _ rfl (w.heap.size+1) rfl 34 (an (az ps)) (0,0) _ HRW.out eH rfl HP8.out ?_|refine aY rfl 34 _ _ rfl w.heap.size (an (az ps)) rfl rfl 34 (an zero8) HIS.out.res HP8.out HP88.out (gS _) ?_);(try simp only[Exit.inBlock,Exit.then]);have hld:=bQ (P:=Tryz.prog) (wc.setRow w.heap.size (an (az ps))) w.heap.size 34 34 (an (az ps)) (0,0) _ (bH wc w.heap.size (an zero8) (an (az ps)) 34 (0,0) HIS.out.res) eH rfl HP8.out;refine aO (v:=.tuple #[.agg (an (az ps)),.bool true]) ?_ rfl ⟨(by rw[HRS.out];rfl),aZ HIS.out.below (aG _) _⟩;rw[bR rfl];simp[asAddr,Result.andThen,hld]
  .have HN:Hid (res=none):=by
    show _=_;rw[HR.out];exact ab h8
   have h8i:((ps.length:Int)==8)=false:=(by rw[aL];omega);have HP8:Hid _:=HP8A.out ps hp;have HP88:Hid _:=HP88A.out ps hp;clear h8;go_wp2_with(first|refine cb rfl 34 _ rfl (w.heap.size+1) rfl 34 (an (az ps)) (0,0) _ HIS.out.out eH rfl HP8.out ?_|refine aY rfl 34 _ _ rfl w.heap.size (an (az ps)) rfl rfl 34 (an zero8) HIS.out.res HP8.out HP88.out (gS _) ?_);(try simp only[Exit.inBlock,Exit.then]);have hld:=bQ (P:=Tryz.prog) (wc.setRow w.heap.size (an (az ps))) w.heap.size 34 34 (an (az ps)) (0,0) _ (bH wc w.heap.size (an zero8) (an (az ps)) 34 (0,0) HIS.out.res) eH rfl HP8.out;refine aO (v:=.tuple #[.agg (an (az ps)),.bool false]) ?_ rfl ⟨(by rw[HN.out];exact⟨_,by first|exact dX _ hp|exact dX _ hp9|rfl,rfl⟩),aZ HIS.out.below (aG _) _⟩;rw[bR rfl];simp[asAddr,Result.andThen,hld]
 |some k=>
  have hk0:lm (some k)=(k:Int):=rfl;rw[hk0];clear hk0;obtain⟨hk1,hkp⟩:=HSH.out k rfl;have hkn:¬(k:Int)<0:=by omega
  have HRS:Hid (res=some (ep ps k ps.length)):=by show _=_;rw[HR.out,Is];rfl
  obtain⟨V,hV⟩:∃V,V=wc.alloc (.cells #[.int .i64 0,.int .i64 0,.int .i64 0,.int .i64 0,.int .i64 0,.int .i64 0,.int .i64 0,.int .i64 0] 34):=⟨_,rfl⟩;have HMV:Hid (Tryz.SixMv w V ps wc.heap.size (az (ps.take 0))):=by show Tryz.SixMv w V ps wc.heap.size (az (ps.take 0));rw[hV];refine⟨HIS.out.on ((ai _ _).alloc (aG _) _),?_,HIS.out.size⟩;simp only[World.alloc,mN];rw[ae trivial];rfl
  go_upto_region 43 with fail;rw[<-hV];clear hV;obtain⟨m,hm⟩:∃m,m=wc.heap.size:=⟨_,rfl⟩;rw[<-hm] at HMV⊢;clear hm HR HIS;go_wp2_with fail;go_loopw [13] (λa wr=>∃j:Nat,j<=k/\a=.int .i64 (j:Nat)/\Tryz.SixMv w wr ps m (az (ps.take j))) (λa _=>k-(intOf a).toNat)
  case atStart=>exact⟨0,aR _,rfl,HMV.out⟩
  case round=>
   obtain⟨j,hj,rfl,hmv⟩:=hrel;have HM:Hid (Tryz.SixMv w wr ps m (az (ps.take j))):=hmv;clear hmv;by_cases hjk:j<k
   .have hjp:j<ps.length:=by omega
    have c1:=HM.out.is.piece j hjp hp;obtain⟨x2,c2⟩:=HM.out.at j (by rw[dX _ (by rw[cL];omega)];omega);have fz:=aj HM.out.row j;have HM2:Hid (Tryz.SixMv w (wr.setCell ⟨m,j,none⟩ (.int .i64 ps[j])) ps m (az (ps.take (j+1)))):=HM.out.put j ps[j] (It ps j hjp hp);generalize ps[j]=y at*;have hj8:j<8:=(by omega);go_wp2;go_roundw
    case rel=>exact⟨j+1,by omega,by go_num,HM2.out⟩
    case measure=>(simp[intOf];try omega)
   .have hje:j=k:=by omega
    subst hje;obtain⟨V2,hV2⟩:∃V2,V2=wr:=⟨_,rfl⟩;subst hV2;have HM0:Hid (Tryz.SixMv w V2 ps m (ep ps j j)):=by show Tryz.SixMv w V2 ps m (ep ps j j);rw[Iq ps j hkp hp];exact HM.out
    clear HM HMV;go_wp2_with fail;go_loopw [14] (λa wr=>∃q:Nat,j<=q/\q<=ps.length/\a=.int .i64 (q:Nat)/\Tryz.SixMv w wr ps m (ep ps j q)) (λa _=>ps.length-(intOf a).toNat)
    case atStart=>exact⟨j,aG _,hkp,rfl,HM0.out⟩
    case round=>
     obtain⟨q,hjq,hq,rfl,hmv⟩:=hrel;have HM:Hid (Tryz.SixMv w wr ps m (ep ps j q)):=hmv;clear hmv;by_cases hqp:q<ps.length
     .have c1:=HM.out.is.piece q hqp hp
      obtain⟨d,hd⟩:∃d,d=8- ps.length+q:=⟨_,rfl⟩;have hd8:d<8:=(by omega);obtain⟨x2,c2⟩:=HM.out.at d (by rw[xW ps j q hjq (by omega) hp];exact hd8);have fz:=aj HM.out.row d;have HM2:Hid (Tryz.SixMv w (wr.setCell ⟨m,d,none⟩ (.int .i64 ps[q])) ps m (ep ps j (q+1))):=HM.out.put d ps[q] (by rw[hd];exact Ir ps j q hjq hqp hp);have hdi:8-(ps.length:Int)+(q:Int)=(d:Int):=(by omega);generalize ps[q]=y at*;have hq8:q<8:=(by omega);clear hd;go_wp2;go_roundw
      case rel=>exact⟨q+1,by omega,by omega,by go_num,HM2.out⟩
      case measure=>(simp[intOf];try omega)
     .have hqe:q=ps.length:=by omega
      subst hqe;have HIS:Hid (Tryz.SixIs w wr ps):=HM.out.is;have HRW:Hid _:=HM.out.row;have hml:=xW ps j ps.length hkp (aG _) hp;have HP8:Hid ((Tryz.prog.info? 34).map (·.size)=some (an (ep ps j ps.length)).size):=by show _=_;rw[kx,hml];exact nK
      have HP88:Hid ((an zero8).size=(an (ep ps j ps.length)).size):=(by show _=_;rw[kx (ep ps j ps.length),hml];rfl);clear hml;go_wp2_with(first|refine cb rfl 34 _ rfl (m) rfl 34 (an (ep ps j ps.length)) (0,0) _ HRW.out eH rfl HP8.out ?_|refine aY rfl 34 _ _ rfl w.heap.size (an (ep ps j ps.length)) rfl rfl 34 (an zero8) HIS.out.res HP8.out HP88.out (gS _) ?_);(try simp only[Exit.inBlock,Exit.then]);have hld:=bQ (P:=Tryz.prog) (wr.setRow w.heap.size (an (ep ps j ps.length))) w.heap.size 34 34 (an (ep ps j ps.length)) (0,0) _ (bH wr w.heap.size (an zero8) (an (ep ps j ps.length)) 34 (0,0) HIS.out.res) eH rfl HP8.out;refine aO (v:=.tuple #[.agg (an (ep ps j ps.length)),.bool true]) ?_ rfl ⟨(by rw[HRS.out];rfl),aZ HIS.out.below (aG _) _⟩;rw[bR rfl];simp[asAddr,Result.andThen,hld]
end Go.Proofs
