import PyProof.Rows.All
import Wide.All
import OpenK.AllK
import Wide.FinOn
import Lean
import PyProof.EqAt
import PyProof.EqKinds
import PyProof.TupleCall
import KE.KNest
import KE.KNestM
import KE.KIntText
import KE.KDictOf
import KE.KPairComp
import KE.KLam
import KE.KSortTup
import PySem.Challenge.RW_backline_k52_whole_told_once
set_option Elab.async false
set_option linter.all false
set_option maxRecDepth 100000
set_option bootstrap.genMatcherCode false
section
open Lean
def Rd.nd(k:Name)(a:Array Syntax):Syntax:=.node .none k a
def Rd.sel(i:Syntax)(l:List String):Syntax:=
 l.foldl (fun a x=>if a.isMissing then Rd.nd ``Parser.Term.dotIdent #[mkAtom ".",mkIdent (.mkSimple x)]
  else if x.front.isDigit then Rd.nd ``Parser.Term.proj #[a,mkAtom ".",Rd.nd `fieldIdx #[mkAtom x]]
  else match a with
   |.ident _ _ n _=>mkIdent (.str n x)
   |_=>Rd.nd ``Parser.Term.proj #[a,mkAtom ".",mkIdent (.mkSimple x)]) i
def Rd.atm(w:String):Syntax:=
 let f:=w.splitOn "."
 if w=="_" then Rd.nd ``Parser.Term.hole #[mkAtom w]
 else if w=="?_" then Rd.nd ``Parser.Term.syntheticHole #[mkAtom "?",mkAtom "_"]
 else if w.front.isDigit then Syntax.mkNumLit w
 else if w.front=='@' then Rd.nd ``Parser.Term.explicit #[mkAtom "@",mkIdent (w.drop 1).toName]
 else Rd.sel (if f.head!.isEmpty then .missing else mkIdent (.mkSimple f.head!)) f.tail
def Rd.app(a:Array Syntax):Syntax:=
 if a.size<2 then a[0]! else
 if a[0]!.getId==`by then match a[1]!.getId with
  |`decide=>Unhygienic.run `(by decide)
  |`omega=>Unhygienic.run `(by omega)
  |`lia=>Unhygienic.run `(by lia)
  |_=>Unhygienic.run `(by simp)
 else Rd.nd ``Parser.Term.app #[a[0]!,mkNullNode (a.extract 1 a.size)]
def Rd.rd(s:String):Term:=Id.run do
 let mut st:List (Char×Array Syntax×Array Syntax):=[]
 let mut k:='('
 let mut d:Array Syntax:=#[]
 let mut c:Array Syntax:=#[]
 let mut w:=""
 let mut p:=' '
 for x in (s++")").toList do
  if x.isAlphanum||"_.'?@".contains x||x.toNat>944&&x.toNat<1000&&x != 'λ' then
   w:=w.push x
  else
   if w != "" then
    if w.front=='.'&&p==')' then
     c:=c.pop.push (Rd.sel (Unhygienic.run `(($(⟨c.back!⟩)))) (w.splitOn ".").tail)
    else
     c:=c.push (Rd.atm w)
    w:=""
   p:=x
   if "(⟨[λ".contains x then
    st:=(k,d,c)::st
    k:=x
    d:=#[]
    c:=#[]
   else if x==':'||x=='>' then
    k:=x
    d:=c
    c:=#[]
   else if ",)⟩]".contains x then
    for _ in st do
     if k=='>' then
      let f:=Rd.nd ``Parser.Term.fun #[mkAtom "fun",Rd.nd ``Parser.Term.basicFun #[mkNullNode d,mkNullNode,mkAtom "=>",Rd.app c]]
      match st with
      |(k',d',c')::r=>
       st:=r
       k:=k'
       d:=d'
       c:=c'.push f
      |_=>pure ()
    if x==',' then
     d:=d.push (Rd.app c)
     c:=#[]
    else
     let a:=mkNullNode (mkSepArray (if c.isEmpty then d else d.push (Rd.app c)) (mkAtom ","))
     let t:=if x==')' then if k==':' then Rd.nd ``Parser.Term.namedArgument #[mkAtom "(",d[0]!,mkAtom ":=",Rd.app c,mkAtom ")"] else Rd.app c
      else if x==']' then Rd.nd `«term[_]» #[mkAtom "[",a,mkAtom "]"]
      else Rd.nd ``Parser.Term.anonymousCtor #[mkAtom "⟨",a,mkAtom "⟩"]
     match st with
     |(k',d',c')::r=>
      st:=r
      k:=k'
      d:=d'
      c:=c'.push t
     |_=>return ⟨t⟩
 return ⟨.missing⟩
def Rd.tab:="(hr.mono (by decide))
by lia
(cK (K:=K) (pv 0) rfl)
(model X.prog X.w)
by decide
(Or.inl rfl)
(λ vs H Q E h=>?_)
Inv X pins σ H s
(by simp)
Nat.le_refl _







(λ _ _=>rfl)
(λ cdv A outer s H vs Q E hr h=>?_)
by omega
.ref s.heap.objs.size
some (.ref L.p)
(model prog w)
Heap.get?_push_size _ rfl
Heap.get?_push_of_some _ e
(pv 1)
Txt K mg t
Heap.lt_size e
(.n rfl)
(CXr P w)
⟨_,rfl,L.p,_,L.dx,_,.ref L.ha,rfl,hp1,T.cl_Thread,T.na_ca,rfl,L.ha,dxh,_,rfl,habH _ _ hh',rfl,?_⟩
(cU (kW (K:=K) T) Z0 rfl T.mg_bk T.kp_bk T.b_bk .nil cH (cF (pv 0) (cF cJ cC)))
(cX (pv 0) T.cl_Thread T.me_cd (gm (K:=K) T) Z0 T.b_cd .nil cH)
(.lst xs)
(cP (K:=K))
⟨p,_,rfl,SqT.of cy,rfl,_,_,rfl,_,_,rfl,rfl,?_⟩
List Str
(.tup xs)
(pv 2)
⟨_,rfl,L.p,_,L.dx,_,.int A.down,rfl,hp1,T.cl_Thread,T.na_cq,rfl,?_⟩
(pv 0)
(model P w)
⟨_,rfl,L.p,L.dx,_,rfl,hp1,rfl,L.p,L.dx,_,_,_,_,_,_,rfl,hp1,SqL.of hd1,_,_,_,rfl,?_⟩




.ref a

Lo K t G H L A n
(.lst ys)
List Int
(.cons ZL .nil)
by simp
(cF ZI cC)
(.ref l)
List Value
(FN ?_)
.ref b
.ref L.p
(.dT kvs)
(dq (K:=K))

eU P w s.heap a ks es ep t
[.int n.1,.int n.2.1,.int n.2.2]
List Addr
.lst []
.ref p
.ref acc
(.tup [.int x.2.1,.int x.2.2])
(.ins t.c_Thread dx (thF i ha dn wr d))
(dF rfl T.no_range (cF (cK (K:=K) ZI rfl) cC))
(arrOf q)
Heap.get?_push_of_some _ q
dk X.prog X.w X.K X.mg X.base CX k f fd ps sp
List.replicate A.many 0
(.ListComp elt [⟨tg,iter,ifs,0⟩] sc pos)
LoC K t G H L A
L.ths.map λ q=>V.ref q.p
List V
⟨rfl,rfl⟩
(.ref f)
backTo pos (starEach es X.env)
.int i
(EP X pins σ Q)







(.ins C dx fs)
(cR (cW ZX T.cl_Loom T.me_aq (ml (K:=K) T) Z0 T.b_aq .nil cH Zf))
s.heap.push PySem.W.emptyDict
envOfC qual scope s.heap.objs.size f cd
Heap.get?_update_other _ _ (Ne.symm nS)
(loF L.dz A.many A.ord L.lt L.lg L.D)
(dv I q Z8)
gi K t p a kl lal tll sc c G H L A n ks sl f
(λ a1 A outer s H vs Q E hr h=>?_)
(eE (dN (cU (yA (K:=K) T) Z0 rfl T.mg_cw T.kp_cw T.b_cw .nil cH (cF (cY ZR ZV (pv 8) ZA) (cF ZI (cF (cY ZR (pv 4) (pv 8) ZA) (cF (cY ZR (pv 5) (pv 8) ZA) cC)))))))
(cV (i:=5) km.nd rfl Z5 (cU (zh (K:=K) T) Z0 rfl T.mg_am T.kp_am T.b_am .nil cH (cF (pv 3) (cF (cX ZV T.cl_Descent T.me_ar (qY (K:=K) T) Z0 T.b_ar .nil cH) cC))))
(.ins t.c_Thread L.dx (thF A.first L.ha F L.wr A.down))
PySem.W.instObj C s.heap.objs.size
.inl rfl
(xss.map fi)
V.ref l.adr
eval e X.env
(cF (fI T.mk_Keeper (vn (K:=K) T) Z0 rfl T.mg_Keeper T.b_cg .nil cH Zf) cC)
(upd H5 kb (.tup [.int s,.int y.2.1]))
(cE (cQ fL))
(.ref C)
(upd (upd H2 pe (.tup [Z08,.ref y.1])) nb (.tup [.int s,.int pl,Z08]))
fY (λ z=>?_) λ z=>?_
(thF A.first L.ha L.dn L.wr A.down)
V.int e.2
(df _)




backToKw pos (keywordEach kws env)

(thn (hi pins s σ H _ I h) λ v s1 h1=>thn h1 λ itv s2 h2=>?_)
intKind P w
HOk P w H h
(λ j A outer s H vs Q E q h=>?_)
(j.push PySem.W.emptyDict).push (PySem.W.instObj C j.objs.size)
(cX (pv 4) T.cl_Thread T.me_cd (gm (K:=K) T) Z0 T.b_cd .nil cH)
[Sum.inl n.1,Sum.inl n.2.1,Sum.inl n.2.2]
V.bl true
nk l.nm
(.tup (k.map kV))
[.int m,.int c',.int a',.int b',.int m']
(fI T.mk_Bundle (yF (K:=K) T) Z0 rfl T.mg_Bundle T.b_cb .nil cH (cF (cS dM cJ (cS eg (cS fV (pv 4) cJ) cJ)) cC))
⟨λ b o e n hb hx=>?_,λ b o e n hb hx=>?_,I.base.free,λ b o e hx=>?_,I.base.tups,I.base.frzs,I.base.tbls⟩
owner.setIfInBounds j (some k)
du w a ep es
cxC CX P w K mg base N F qual scope f cd cl A outer s H E
Heap.get?_update_other _ _ (Ne.symm hb)
.int j
(FK.mp hx).1
(.ins t.c_Loom dx (loF dz m o lt lg D))
(loF L.dz A.many A.ord L.lt L.lg ⟨po,L.D.ta,L.D.wy⟩)
tm ZL lo.c.self rfl Zd (ir lo.c hj ?_)
.ins t.c_Event dxe (evF v Ew.st m1 m2)
(cF ZV cC)
(cY Zm ZI cJ ZA)
(gs (K:=K) rfl T.no_enumerate (cF (cU (vf (K:=K) T) Z0 rfl T.mg_dv T.kp_dv T.b_dv .nil cH (cF Z2 cC)) cC))
(.ins t.c_Thread L.dx (thF A.first L.ha L.dn L.wr d'))
ks.map λ k=>V.ref k.kp
(λ i=>fA (x i) (y i) (z i))
(eE (dN (cU (yQ (K:=K) T) Z0 rfl T.mg_as T.kp_as T.b_as .nil cH (cF ZI (cF (cY ZR (pv 5) cJ ZA) cC)))))
(.builtin id)
A.ths.set j T'
sq λ rr1 ee1=>?_
(loF L.dz A.many A.ord L.lt L.lg ⟨po,ta,L.D.wy⟩)
⟨_,rfl⟩
Walks prog w A.in1 it fp wr n Pi St







.seq its.toArray n 
(λ a4 A outer s H vs Q E hr h=>?_)
(.frz o Zl)
(keywordEach [] X.env)
(pv 3)
(pv 4)
WfD A.many (cnt A.ths) A.A
(eK hr)
(.fresh 0 0 led)
nk e.1
arrOf st
List Nm3
.int m
(top 18)
(pv 5)
(g pins s σ H _ I h)
(dj (K:=K) ZX fK rfl)
(Or.inr rfl)
(.Attribute o m apos)
⟨po,ta,wy⟩
⟨Z4,Z4⟩
some (.ref kl)
(dD (K:=K) Z2)
FX rfl
below t.place j
(iV ns)




(.ref it)

(cS eg (cU (jL (K:=K) T) Z0 rfl T.mg_ct T.kp_ct T.b_ct .nil cH (cF ZO (cF cJ cC))) cJ)
(cS eg (cU (jL (K:=K) T) Z0 rfl T.mg_ct T.kp_ct T.b_ct .nil cH (cF ZI (cF cJ cC))) cJ)
⟨C.len,λ f G A outer s H z vs Q E q=>C.run f G A outer s H z vs Q E (q.mono h)⟩
some (.int y)
nss.map List.length
k _ _ Z0N e
eT P w h a ks
V.ref e.2.1
JK Y.depth (KX _ _ lk) rfl S.co S.gen rfl (PySem.W.codeRec_of KX W) (hb _ _ _ _ ?_)
(mG CX P w K U base N qual d f j A i s H E)
(.frz oc (.own c'))
tm ZL lo.c.self rfl (.cons (ix (i:=1) hb rfl) .nil) ⟨G,L,A,n,j,rfl,lo,nn,j1,k⟩
lo.tw T0 (FT hT)
(.frz fo (.own h'.objs.size))
(.dK kvs)
I.hok.fresh Z9
(cF Z2 cC)
(cF (pv 6) cC)
hs.2 b (F1 (F9 ZK (I.ok.cab x c hfn hc)))
cG H H'
I.tok _
.ref dz
T.evs.take y.toNat
Binds X.K fd ps ds
.int T0.evs.length
(eJ (K:=K) rfl (dh (cN (i:=3) oP.nd rfl Z5) (dh (cN (i:=4) oP.nd rfl Z5) eM)))
(eJ (K:=K) rfl (dh (cN (i:=3) i4.nd rfl Z5) (dh (cN (i:=4) i4.nd rfl Z5) eM)))
(cF Z2 (cF ZP cC))
some (.ref tll)
some (.ref lal)
qs.map V.ref
eU P w h a ks es ep t
Nx.mk hi ⟨?_,cy,λ b u e=>?_,_,rfl⟩
FI (S.state ?_)
Around.under_plainId F.plain_min_loop _
Around.under_plainId F.plain_max_loop _







(tupleKind (dJ X.prog X.w))
(start N vs)
(dj (K:=K) ZX ZI rfl)
(FK.mp h).1
⟨_,rfl,.inl ⟨rfl,_,SqL.of v.kl.1.1⟩,_,rfl,λ kp dx nk ndx nex=>?_⟩
upd H3 kb (.tup [.int x.1,.int x.2.1])
Passes CX X E
K w.params
FI (IQ hS rfl ?_)
.int l0.to
(cW ZI T.cl_Loom T.me_cf (wq (K:=K) T) Z0 T.b_cf .nil cH (cF (pv 11) cC))
(.frz o u)
(.cons (.int _) (.cons (.int _) .nil))
(.bl true)
(.Name x pos)
.ref q
(upd H2 pz (.tup [.int s0,.ref hx']))
(jm (K:=K) hr.units)
(cV (i:=2) qN.nd rfl Z5 (cS eg (cS gW ZV (cS dM (cS fV ZV cJ) cJ)) cJ))
vs.toArray.zip vs.toArray
leap t.mask p.i p.perturb
gP (sc:=sc) (env:=X.env) (λ y hy hf=>I.ok.has y.1 (ok.free y hy hf))
.dT []
(λ z hz=>hn z (FW _ hz))
(dB (fh (K:=K)) rfl T.no_len jM Z0x)
(.type T)




(cY ZR Z2 ZI ZA)

(cU (pC (K:=K) T) (G.mono Z4) rfl T.mg_dm T.kp_dm T.b_dm .nil cH Zf)
(.ref x)
assignEach es X.env
K.In s.heap
.Return (some (.Name name p2)) pos2
(upd H1 q (.tup [.int n.1,.int h]))
(dS cC)
(dN (cW ZX T.cl_Thread T.me_aw (uj (K:=K) T) Z0 T.b_aw .nil cH Zf))
(cxC CX P w K mg base N F qual (cI st) f (.ref G) cl A outer s H E)
(cS dM cJ (cS iR (cS kx ZI cJ) cJ))
⟨rfl,?_⟩
ths.set j T'
lo.same s1
.bool true
⟨po,ta,wy⟩ 
(fu Z1H Z2 ZI ZA)
(cY Zm Z1O cJ ZA)
(dP (iX rfl) rfl T.no_list jG (cF (dP mx rfl T.no_range nv Z1q) cC))
(cF Z1E cC)
(λ z=>?_)
(.lst (es.take y.toNat))
(.Attribute o name apos)
FI (Ia (FI (lt_int (FI (FN Zi)))))
.inl ⟨⟨xs,q,Z9⟩,hd σ H p⟩
⟨_,e⟩
⟨_,ZG,rfl,rfl⟩
z.getD j none
tupleKind (dJ P w)
some Z06
kA X pins H b
js A fs ln t2
eT P w s.heap a ks
congrArg some e
Tri s.heap v x y z
SqL.of hd
SqL.of el







Paired.length r
PE X a ta
Option.some.inj h1
List Expr
DeB t H D A xss m b e l
.refl _
.ref l
(upd H1 acc Zr)
(arrOf z)
(PySem.W.fnOf x qual (jd st) (fP st) (cI st) .none D n F z j B)
(.tup (nV n))
(.ins t.c_Event dxe [])
some (assign (.Name y py) X.env)
(cZ hU (cS eg (pv 7) cJ) cJ Z0Z)
[.ref it,.none,.ref S]
[.int x,.int y,.int z]
(λ j _ acc xs R _ q=>⟨_,rfl,_,rfl,_,_,rfl,rfl,_,rfl,q⟩)
cz (cB e F)
backTo cpos (starEach es X.env)
PyData.list (ps.map PyData.int)
Hk λ i=>?_
FI ?_
(upd H a o)
(dE _ _ _)
(cX ZX T.cl_Keeper T.me_ch (yo (K:=K) T) Z0 T.b_ch .nil cH)
(cX ZX T.cl_Keeper T.me_bt (uV (K:=K) T) Z0 T.b_bt .nil cH)




(cU (yX (K:=K) T) Z0 rfl T.mg_dt T.kp_dt T.b_dt .nil cH Zf)

(cF Z1F cC)
⟨_,rfl,?_⟩
RelV y u
List ThA
Heap.lt_size q
.FunctionDef name args body [] none [] scope none name pos
(top 15)
(some v)
(eval o X.env)
(.tup F)
⟨false,rfl,fG ?_⟩
wk e.1
model prog w
ls.map V.ref
hs.2 b (F1 (F9 ZK I.ok.above))
eval a X.env
V.ref x.1
List Stmt
JL (pl:=pl) (thn (he pins s σ H _ I h) λ u s1 z=>?_) ht
I.mod.glob.keeps I.bk
G6 F.plain_min_loop _
G6 F.plain_max_loop _
False.elim q
.ref d.heap.objs.size
(cX ZI T.cl_Loom T.me_df (yG (K:=K) T) Z0 T.b_df .nil cH)
(cE (cQ ZV))
(.tup us)
relabel sc X.env
kJ X.prog X.w X.K X.mg X.base CX k name qual st ps F sp
FN ⟨G6 F.plain_list_iadd _,GN F.entry_list_iadd ?_⟩
.seq vs.toArray 
(lo.pts j T0 hT)
⟨fl,fs,.ref ub,rfl,rfl,cG.new nub _ _ g1,dc ZC,?_⟩
GS (iu C M Z1 Z1 ?_)
Array (Option Value)
(upd H dxe (.own e))







List Env
.ref q.p
(PySem.W.fnOf name qual j F scope dV kV L pm an z ct)
upd (upd J4 x4 (.own q4)) q4 (.ins t.c_Bundle x4 [])
Di G H L A
⟨us,[]⟩
⟨rfl,cy,cG.new F,_,rfl⟩
⟨_,rfl,rfl⟩
some (.ref D.d)
s1.trans s2
mG CX P w K mg base N qual scope f cd A outer s H E
Th K t G H q T0
PE X e te
KT H kvs xs
J.map Value.ref
Option.some.inj h
some (.ref la)
List.Perm.refl _
Itk a o kvs
Heap.get?_push_of_some _ ZH
Array Keyed
Array DictEntry
AlW A fs ln
A.ths.set j T' 
.Pass ⟨0,0,0,0⟩
.Attribute o f pos'




(λ e=>Z0Y)

(eqU x)
(cO ln)
(cF Z1O cC)
(.lst ls)
mG CX P w K mg base N qual scope f z A outer s H E
.inr ⟨_,Z1J,b,.inl d.de.po,rfl,d.hb,d.v1.symm⟩
⟨xs.length,Ze,Gv _,h0⟩
⟨_,(cE (cQ (dP kI rfl T.no_dict uA Z1q))),?_⟩
cy (H:=H) (a:=acc) (o:=Zr)
[V.ref t0,.ref t1,.ref t2]
GL (ae I3 a0 U a3 q) (λ r s4 hr=>?_) λ _ _ z=>z
(λ f vs=>PySem.call f vs)
(letOwnedTupleGo tg Z1_ u)
(PySem.W.fnOf name qual l z d dV kV L pm an j ct)
(.ins t.c_Thread L.dx Z0X)
ns.map V.int
eval b X.env
HX.mpr λ _ _=>rfl
False.elim d
.inr ⟨_,nk l0.nm,b,.inl hd6,rfl,hb6,v1.symm⟩
(pyNext Z1_)
(Ne.symm ne)
(.own x)
vals1 r
some Z_
some (.ref tl)
owner.toList.filterMap id
evF v st l1 l2
cz (Ne.symm J)
TWf n T
SqL.of (c6.held _ _ gacc)
.ref ta
(f (.int i t) (.int j u))
(cI st)
(CR CX outer P w H s Q E)
(.Compare a [op] [b] pos)







⟨G,h1,h2,L,O,λ q=>U ((V n).mpr (.inl q))⟩
at_ mask s (leap mask i p).1 (leap mask i p).2
⟨Z1,Z1,Z1,Z1⟩
sliceBounds lo hi none n
rr1 _ _ _
jN I.hok e
fY (λ z2=>?_) λ z2=>?_
congrArg (λ x=>[V.ref kp,V.ref x]) v.pe.symm
V.ref e.2
SqT.of hb
Option Nat
Loc X.env.scope x
ForInStep.yield r
(cF ZX cC)
(cF (cY Zm ZV cJ ZA) Zf)
(.lst zs)
(.frz o (.own c))
M.mod.nolimit.keeps λ b o e=>(M.bs b o e).1
Around.under_plainId F.plain_proto_collect _
⟨n,y.1,y.2.1,y.2.2⟩
⟨_,rfl,q⟩
⟨_,FJ Z1⟩
some Zt
some (.int c)
some (.int b)
some (.int a)




lK j.heap H

has.map V.ref
gO (fs.lookup f) (mA f)
Vals dvs ds
Stp G G' H H' L A L' A'
SqL.of (c6.held _ _ gl)
O _ _ th.self
NmL H ls ns
FN ?_
Array Value
.tup [.int l0.nm.1,Z2J]
.inr rfl
(λ b u _ _ j e _=>⟨u.slots,k b u j e⟩)
(iV ln)
(g i j)
(cO ls)
(LoL.gj Z8)
(I.base.free b o e n f)
(Heap.SameBut.refl _ _)
(.cons ZL Zd)
(.bl b)
⟨⟨xs,s4 _ _ e3,?_,ZC,bt4⟩,_,_,rfl⟩
absurd z (noA b)
GN PyProof.Rows.F.entry_set_update_loop ?_
.int h
(pv 6)
.inl h
(GZ _)
c.gn _ (LoL.gj (L:=L) (A:=A) (b:=L.p) Z8)
List.range h.objs.size
GN F.entry_min_loop ?_
GN F.entry_max_loop ?_
(dj (K:=K) ZX Z2g rfl)
(PySem.W.instObj C dx)
⟨v,H',J.os,J.bare,J.base,J.hok,rv,q⟩
hk c o F.1 F.2.2.1 F.2.2.2.1 F.2.2.2.2 e
g.laid (t':=d.toks) (λ b u e=>ZH) Z9 ?_







M.mod.kin.keeps λ b o e=>(M.bs b o e).1
FI (GL hc (λ vs s1 h1=>?_) λ _ _ e=>e)
Around.under_plainId F.plain_list_iadd _
(thn (d pins s σ H Q I h) λ c f e=>?_)
some Zg
s.heap.IsList l items
s _ _ e
rr2 _ _ _
rawInt pos.line
putK kvs k v
out (W.sub _ z)
nk n
h1.symm.trans e
fB A.many ns
cz (fO h hp Z8)
arrOf F
LoL.gD hq hb
L.ths.set j q' 
KV kvs vs
Iv A fs xss nss
I.hok a _ ea
FI (FI (HH Zi))
Cls X.K C
.ref c'
.int y
.bl o




(d pins s σ H _ I h)

(cE (cQ ZI))
(FK.mp h2).1
(.lst es)
some Z08
pairsOf vs
lo.same s2
h'.push fo
by omega
T.keep _ _ _ t0 (λ b _ o e=>al b o e)
GS (Km ?_)
.ref l.adr
.int 0 0
(λ y=>?_)
(upd H2 l5 (.lst [V.int nw,V.int dg]))
(.str x)
(.ref D)
(.ins t.c_Event dx (evF v A.st l1 l2))
wpAny M A (storeName X.env x u) Q E s
cz (g b _ q λ z=>z)
Kp t G H L A k ls ns
HOk X.prog X.w H' h'
FI Zi
FI (Ko (GN F.entry_proto_collect ?_))
(vX m o Z0k sts hbs)
(upd (upd H dx Z4w) x (.ins C dx []))
(mK (K:=K) hr.units)
(Stp.of s1).trans st
(.Subscript o i pos)
(.Attribute e f pos)
⟨_,ZG,rfl⟩
wpAny Z3 A (getMethod Z_ m pl) Q E s
some (.int st)
some (.int nb)
rawInt pos.col
hl i σ H hi p
e (h1.trans z)







backToKw pos (keywordEach kws X.env)
at_ mask s i p
Slot T name id
PyProof.Rows.IntsAre items.toList ns
Gk (Ne.symm z)
Gk (Ne.symm e)
De t H D A xss
.ref f
.inl ⟨rfl,_,a7 _ λ c u nc e=>e⟩
(dB (fh (K:=K)) rfl T.no_len jM Z5N)
(cF (pv 7) cC)
(.tup [Z08,x])
(.ins t.c_Keeper dx (kpF L.p td en))
⟨t,rfl⟩
⟨rfl,rfl,_,rfl⟩
⟨F,λ h a1 n' lt U=>?_,_,_,rfl⟩
wpAny Z3 X.A (eval Z2O X.env) Q E s
sts.zip hbs
some Zs
s4.trans s5
s3.trans s4
pU s.heap x dx C mA
jg (y:=⟨s.la,s.tl,ln,_⟩) hs rfl
fO th.self th.fR Z8
cG G G'
c3.th j q T' hq hTj




.int ys.length

Value.ref a
I.hok a _ e
.ref po
.ref lg
.ref e'
.inl ⟨rfl,_,wl6 _ (put ub nub)⟩
.inl ⟨rfl,_,SqL.of (s4 _ _ e3)⟩
(λ a7 A outer s H vs Q E hr h=>?_)
(ns.take i)
(getMethod ov m pl)
(cR (dQ (K:=K) F5 Gj Gi dA ZV Z0R))
(cK (K:=K) Z1F rfl)
(cF ZI Z0x)
(Obj.putSet es' t')
(.Name x p)
wpAny ZY A (pyNext (.ref I)) Q E s
s.heap.IsKeyIter it d i es.size ep
(λ e' s''=>CX outer H s E e' s'')
(ly (K:=K) rfl T.no_enumerate Z0x)
(gs (K:=K) rfl T.no_enumerate Z1q)
(F.args_dict_keyiterator_next_1 _)
⟨_,e,rfl⟩
⟨[Z_],[]⟩
some (.ref u)
s1 _ _ W.self
ps.zip us
jc rk O h1 h2
cG.new F
arrOf st'
SqL.of cy
I.ok.bs b o e
.int lo t
.int l.wd
.int hi u
(λ x=>x.1.isSome)
(λ j A outer s H vs Q E F h=>?_)







(tOp r ta tb)
(ro (K:=K) T)
(jL (K:=K) T)
(compareOp .NotIn)
(compareOp .NotEq)
(by simp)
(backToKw pos Z1D)
(W.frame _ _ _ L λ b hb o e=>?_)
(A.take l pl)
(.tup ys)
(.ok (.ret .none))
(.Tuple es kk pos)
kat_no (kat_one _ _ (lt_int ?_))
[Z0r,.int T'.evs.length,.ref m1]
FI (IA (FI (wpAny_bindName ?_)))
(λ _ s''=>CX outer H s E e s'')
(cY Zm (fu Z1H ZI Z1F ZA) cJ ZA)
(PySem.W.methodObj Z06 (.ref y))
⟨⟨o,e,ex.1⟩,λ a l=>?_⟩
⟨rfl,rfl,rfl⟩
⟨c,H',I.ig,q⟩
t.put j
some (.ref kk.kp)
ps.map prD
okD n d
lN I.hok e




h.elim (λ e=>.inl e.symm) .inr

backToKw cpos Z1D
[po,ta,wy]
W 0 m σ H
Q V.non H'
Option.some.inj e
Option.bind_eq_some_iff.mp T.hm
Gv _
Gf _ (FL.mpr rfl)
FI (Gp ?_)
But S H H'
.inl ⟨j.toNat,ZC,tk _ _ e3⟩
(λ q=>V.ref q.p)
(λ h' i F e=>y d j D h' i F e)
(λ b u j e=>⟨u,k b u j e⟩)
(λ b o f e=>(V.2 b f).trans e)
(λ b o _ e=>Z6G)
(s2 _ _ e)
(cY Zm Z2p cJ ZA)
(cS fV (pv 7) cJ)
(cF ZI (cF (eC (cF gY Zf)) cC))
(backTo pos (starEach [e] env))
(PySem.F.args_dict_get_3 _ _ _)
(Gd Z3X (Jw Z3X))
(F1 ZK)
(.lst Z24)
⟨rfl,rfl,λ i j a b c=>?_⟩
tuples' true
iQ t n
hV w t s.heap I a i es.size ep
SqL.of th.fR
SqL K H a xs
PlainAttrs T
List Keyword
I.cell x c e
Hq (h n q M Y Z L λ _ _=>rfl)
Gl X x







False.elim j
Around.frames_deeper e0.frames
.ref F
.int d
.inr ⟨q,JB _ _ _ (.inl q)⟩
.inl z
(turns mask)
(jT K)
(cG.new hkb).trans (cG.new hq)
(S.at' λ o e=>U.heap a o V e)
(FK.mp hT).1
(.tup [x,y])
(.int k tok)
xs.toList.map rk
rk.en T0 (FT hT)
kat_cons (HV ?_)
fO th.self hd Z8
cG.new (o:=.tup [Z08,Z4B]) np
c.th i q T hq hT
PySem.W.instObj C j.objs.size
GC _
FX Z1
FI (Hw j rfl ?_)
Builtin.bitNot x
(λ b u _ _ j e _=>k b u j e)
(win t.mask i j)




(upd H p (.lst (xs.set j v)))

(me rfl (K:=K) (P:=P) (w:=w))
(TP X pins σ Q)
(.tup (nV l.nm))
⟨xs,U.next st,V.keep tk⟩
wpAny ZY A (setWalk a) Q E s
some Z1M
lM P w K mg base A outer s H
hls x hx
eV k X.A
RelV v u
List.set_append_right _ _ Z9
List Key
GX.mp nd
.int i t
.int 1 v
.inl (s3 _ _ (di.ways e he))
(some u)
(GU _ _)
⟨v,H,I,r,h⟩
⟨us,kw⟩
⟨q,rfl,rfl⟩
⟨p,dx,dz,acc,lg,Z1T,Ls⟩
⟨n.typeIs,λ b q=>?_,z⟩
⟨h,p,fN.mpr (.inl b),z⟩
some Zj
s2.trans s3













































































































































































































































































































































































































































































































































rr4 _ _ _
rr3 _ _ _
q.keep (λ b o hb e=>?_) tk
q _ I.fresh
nz lo.tw l.nm.1
hs i x a σ H (y xs q) na p
h.all v F
g.sub _ _ e
codeAny_func ?_
cL f v fs







cG.new hc
cG.new hacc
cG G H'
Trk B H f S
Pv 0 σ H
PassesOwn Z3 X.A X.env X.xe
PT X a tA
PI X tg iter wi
PE X o to
PE X b tb
Option Addr
Nx.mk hi ⟨?_,rfl,_,rfl⟩
Itl K a
Heap.lt_size ho
Heap.get?_push_of_some _ g2
HU (os.lb j hj).2 (rs j hj)
FI (seqEpoch_at ho6 rfl ?_)
FI (FI (HV ?_))
.tuple Zp
.tup [.int 9,.int 9,.int 9]
.ref l0.adr
.ref kp
.ref L.wr
.int l.to
.int c
.inr h




.inl ⟨k,jq ndP hp hu k⟩

.inl e
.inl (.inr ⟨o,e _ _ h⟩)
(λ l=>Z0P)
(λ b o hb e=>bt b o Z2t e)
(upd Z0S q Z2W)
(tri h n)
(iV fs)
(fU (K:=K))
(fH (f:=fk.nm) eZ lo.wf.nd)
(dZ 1)
(dD (K:=K) Z5y)
(compareOp .Eq)
(cE fX)
(Z0q).trans ((Z0q).trans e)
(Z0C).push Z0M 
(V.int y)
(PySem.W.looks_findIn X hi)
(Ne.symm W)
(LoL.i5 hb)
(I.base.keep b o e n hb hx)
(F.mono Z4)
(E b o e f)
(D.own A)
(.list (ps.map λ ps=>Z3T))
(.cons .c .nil)
(.bool b)
⟨cl,?_,λ x c' e'=>?_⟩
⟨.int Z5n,H,Z1u,Z18,q⟩
ps i x j ys _ G (y xs q) p
n pins J σ H1 M L Q j G F
jt X.N X.env.scope sc N' k
dm P w H h a (ic P w a ks)
List.length_erase_of_mem j
.ins C s.heap.objs.size []
.inl ⟨rfl,_,SqL.of g1⟩
(vs.map (eP s.heap)).Nodup







(ha pos pins s σ H _ I h)
(Obj.data_mapDictKeys q _)
⟨b,rfl,hb⟩
some (.ref lr)
some (.ref lp)
some (.ref ld)
some (.ref lb)
some (.ref au)
some (.int mn)
some (.int hd)
s3.heap.get? b
kA X pins H' b
h1.at λ o q=>k it Ze o q
h.imp λ h e=>h (j _ _ e)
eD A.wy k n q 
dm P w H h a o
cz (cB z hacc)
cz (cB e hacc)
SqT.of (d.de.lets l d.hl)
SqL.of ll.self
Lnm H l qs nss
J _ _ Z1 Z1 Z1
I.base.slot b o e n hb hx
DecidableEq κ
D.qs.map V.ref
D.nx 




Around.under_plainId Iy _

.cons Z18 (.cons ru .nil)
(σ.set i Z3h)
(λ o=>HO.frz o (.own b))
(λ b o e=>ZH)
(λ _ _ q=>Zy)
(upd H p (.ins C dx fs'))
(lo.wf.wi e0 he0 m).mp hm
(l pos pins s σ H _ I h)
(j pos pins s σ H _ I h)
(h pos pins s σ H _ I j)
(cF (cY ZR Z2 ZV ZA) Z2s)
(LoL.gD hr hb)
(.lst (iV xs))
(.lst (iV ps))
(.Assign [Z4Z] value pos)
 Str
⟨e,?_⟩
z.sameBut hs (cne y c e)
xss.map fi
st.at λ o e=>k g Z8 o e
i7 I.hok e
hth j q hq
hV w t s.heap I a i n ep
eval e env
es.set i y
dm X.prog X.w Z3W h' a o
d.de.lls.at' _ q _ hq hx
c.mT Z9 (c.hok.fresh Z9)
atKey xs k
Vals vs us
Obj.data_mapDictKeys G _
Obj.data_mapDictKeys F _
MtR X id r
List.set_getElem_self lt
List.length_pos_of_mem j
Inv (X.lA E) pins σ H s







Heap.SameBut a s.heap h'
G6 F.plain_extend_loop _
FI (Io Zi)
FI (Io ?_)
FI (FN (wpAny_throw ?_))
.seq out c
.ref d
.inl ⟨j,h1,s _ _ h2⟩
(λ c v j q=>k c v ?_ q)
(truthy v)
(s1 _ _ e)
(pv 8)
(eu kvs k)
(dZ 0)
(cN (i:=8) jh.nd rfl Z5)
(cN (i:=4) jP.nd rfl Z5)
(cN (i:=3) jP.nd rfl Z5)
(cN (i:=2) i4.nd rfl Z5)
(cF cJ cC)
(Z0E).trans (kp b o Z e)
(Z0E).trans (Z b o nb e)
(HZ _)
(G8 _)
(.tup [.int l.nm.1,Z0r])
(.ref s1.heap.objs.size)
⟨rfl,l,l,rfl,U,M,L⟩




⟨_,H,I.kept k,?_,q⟩

some Z5t
some Z0r
some (.ref Y)
s1 _ _ y
s1 _ _ W.en.1
s.heap.DictOfH knd d xs
pendingOf st3
lo.lk.tp e he
hX H v n
V.int st
Tri h v x y z
SqL.of e
PE X value tv
Option V
List EvA
Itr lo n
Ic (x.above y c (GO h))
HE.mpr (Ne.symm (F1 d))
Gs.mp hx
GN F.entry_type_call ?_
FV Z1
FK.mp hq
FJ hi
FJ (l:=A.ths) (i:=i) Z1
F2.mp z
F (λ i=>(h i).symm) h1
Es ta σ H vs
But q.ad H H'
.int pl
.inr Z05
.Constant (.int 1) n kq
(λ b o f e=>O b o f e)
(vE (K:=K) T)
(upd H l (ic P w l ks))
(upd H F Z2u)
(top 21)







(s14.trans g0).trans g1
(pC (K:=K) T)
(iD (cZ kU Z1E ZI Z0Z))
(gm (K:=K) T)
(gA T lo.c rfl rfl hqs)
(fP st)
(dJ P w)
(dF rfl T.no_range Z5N)
(dF rfl T.no_range Z1q)
(bits h)
(HT.sIx xs.length 0 lo)
(Gf _ (Gf _ (gQ hb e)))
(A c z).2.2.1 x c e rfl
(.str qual t)
(.ref (bs i))
(.own a)
(.ins C dx (cL f y fs))
 String
insertAt t.place Z1Y j
i k pins j σ H1 Q d f
[ZE,Z1d,some (.int J)]
OpR X (compareOp op) r
HJ (gJ I y z D ?_ B d)
GS (wpS_lift (Ia Z2k))
.ins t.c_Descent dx []
(λ x=>some (V.ref x))




(w2.wi e0 he0 z).mp hz

(thn Z1P λ v k z=>?_)
(thn Z1P λ c j z=>?_)
(starEach [e,f] X.env)
(keyPart e.key).isSome
(ha pins s σ H _ I h)
(Hf iG T oD ?_ (qJ _))
(Gf _ (Gf _ (gQ F e)))
(.Slice lo hi none p2)
(.Call Z2v [] [] cpos)
((Stp.of s6).trans st)
⟨⟨pt,pw⟩,tw'⟩
⟨rfl,rfl,rfl,rfl⟩
zI mg base t
us.map V.ref
s3 _ _ e2
s _ _ h.self
nss.set h ns
jU T y st
hashInt k
fD H G G1 H1
fD H G G' H'
cz (cB e nd)
cnt A.ths
absurd rfl h
WfD m c A
Tri s.heap u x' y' z'
TaI t2 A.many 0 A'.ta
SqT K H a xs
S.nd.sublist (Kc _ _)
RkO m ths
PoI t2 A.many 0 A'.po
PE X o td
PE X o ta
PA X es t
List.range j
Kp t G H' L A k ls ns







Itc K l c
I.list hq
I.base.there b o e hx
False.elim h
FV Z8
FV Z4
FI (wpAny_handled ?_)
FI (Iz hit.typeIs Zi)
But [x] H H'
But [q] H H'
.ref r
.ref c
.ref I
.ins t.c_Keeper dx []
.inr ⟨z,FW _ m,q⟩
.inr ⟨F,FW _ m,q⟩
.inr z
.inl (.inl (e _ _ h))
(z pins s σ H _ I h)
(upd H l Zb)
(upd H acc (.lst ns))
(l pins s σ H _ I h)
(j pins s σ H _ I h)
(intBits_le_64 h1 h2)
(i pins s σ H _ I h)
(dj (K:=K) ZX ZV rfl)




(cO ln j)

(cO ln i)
(arrOf _)
(O _ _ a3.1)
(O _ _ a1.1)
(L.own A)
(I.ok.hd hc)
(G pins s σ H _ I h)
(FK.mp hy).1
(FK.mp h1).1
(.tup ((Z6L).map kV))
(.call (.ref fa) Z7w)
(.UnaryOp .Not a pos)
(.Call Z1S [] [] pos)
⟨true,rfl,fG ?_⟩
⟨_,rfl,_,rfl,?_⟩
st.trans (Stp.of s3)
lo.wf.wi e0 he0 l.nm
i pins k σ H1 Q f d
cu.old lo aw poi hl'
SqL.of d.de.lls.self
SP X pins D .next s'
Option.some.inj this
Nat.min_le_right _ _
I.base.there b o e f
Fun K x qual st f fd
FJ (l:=es) (i:=i) Z1
FI (FI (S.state Zi))
.seq its'.toArray d 
.inr ⟨j,Z1,h2,e⟩
(upd H l (.lst ls'))
(sb.2 _ n1).trans hT
(cG.new hkb).free hq
(PIE X pins σ tg R)
(List.range hs.size)
(List.range es.size)
(.lst (iV (gM i j)))







⟨x,_,_,_,_,rfl⟩
⟨po.1,λ v=>?_⟩
⟨_,Z6a,_,rfl,k⟩
⟨_,Z3z,_,rfl,k⟩
⟨[],[]⟩
⟨[],H,I,.nil,h⟩
⟨ZC,ZC⟩
⟨H,I,q⟩
slot rfl Z8
ns.getD i 0
ni t.mask i
mN xs lo hi
l.map f
cz (cB z F)
cz (cB q c)
c7.th j q T' hq hTj
by simp
absurd z Z8
absurd q Z8
U.map V.ref
Tab mg base q.1 q.2
Tab X.mg X.base c T
PA X [a] ta
O.map V.ref
Mod X.K X.mg X.base
List.map_snd_zip Z9




List PyData

L.map V.ref
I.hok p _ d
I.hok b u e
FK.mp h
FI (Iz j.typeIs Zi)
F.map V.ref
But [L.p,L.lg] H H'
Array (Z5K)
.ref wr
.ins t.c_Loom dx []
.fields ps 
.Subscript o i pos'
(λ e=>Z5I)
(λ e=>Z1h)
(λ _=>Z0h)
(λ _ q=>q)
(upd H x o)
(nB (iC Z1H ZI Z2))
(ks.map kV)
(jC (K:=K))
(iY N vs j)
(iV es)
(fh (K:=K))
(cF Z0y cC)
(Ne.symm F)
(Hv.mp e).1
(FX J).symm.trans z
(FV J).symm.trans z
(FK.mp e).1
(FK.mp O).1
(F O).mpr ⟨a,b⟩
(.tup (p.1.map kV))
(.Tuple es kk pos')
⟨V,E1,z1,z2,F⟩
⟨T',F,h1,h2,J⟩
xs.map λ q=>q.2.1







some v
some Z5x
s4 _ _ e
s3 _ _ z
putSet_of es' t' j
o1 y c a
md S Y.hd M hl r x
lo.at hj
kz hT hE
kL I1 ea c hm l ?_
iV Z00
hl j y v' e1 e2 e3
h x FZ
firstArgMember _ _
cG G H
c2.th j q T0 hq hT
Un fs ex H H1 h h1
T.pt y
SqT.of (s3 _ _ he)
SqL.of O
RelV x u
List Nat
EP X pins σ Q w s
.ref e
.ref D.d
.inl Z5z




.inl (LoL.gD hr y)

(upd H6 L.D.ta ot)
(top 28)
(ns.map WData.int)
(cZ hU Z0y gY Z0Z)
(cF ZV (cF ZO cC))
(bs.map Value.ref)
(HY hit.typeIs Zi)
(FW _ j)
(.dK [])
⟨r,q,d,i,p,z⟩
⟨kp,dx,td,en⟩
⟨j,h1,h2.2.1⟩
⟨Z3F,_,_,rfl⟩
val j
uS I.hok e
s.heap.update p f
q.keeps kp
pl i j ys H2 hi p
nofn y (c1 y c a)
knd.is s.heap k a
kS H a y o
iT I.hok J
evs.2 k _ _ hx hE
es2.toList.map ke
eF.reads I all rv
eD A.wy e0.1 n 0 
cz nc
cz (Ne.symm nacc)
Y b F
Vis X.env.scope x
U.trans aB
SqT.of hr1
Sid G H' L A b xs
Option.some.inj U
Option Int
NmL H J ns







Lo K t G H' L A n
Inv.made (C:=C) I
I.pin p hp
HeapKind prog w K
FV ZC
.tup [.str w,Z0r]
.Name y py
(λ _ _ _=>False)
(sj wi k g tc te)
(q9 ng cJ)
(hT q M).2
(eval iter X.env)
(eC (cF Z1E Z3a))
(cY ZR ZV ZCL ZA)
(cY ZR ZI Z1E ZA)
(cY ZR Z2 Z8r ZA)
(Z3A).symm
(I.ok.noex b o e)
(I.hok.fresh ZCV)
(Ax a Z0U)
(.tup Z3P)
(.rng i j)
(.ret Z2n)
(.lst Z5m)
(.lst Z1Z)
(.int Z5n s.toks)




(.done (.ret ZD))

(.Tuple es k pos)
(.Dict [] [] pos)
⟨p,ys,a,b,c⟩
⟨o,e,ex.2.1⟩
⟨[],ta2,[]⟩ 
xs.map λ x=>Z3q
some (.ref J.kp)
s10 _ _ v.kl.1.1
lo.wf.wa l hl nt
h.imp Eq.symm id
h.at' i q xs a b
fZ (n:=2) Z8w Z4
fZ (n:=1) Z3X Z4
cz (Ne.symm npw)
cz (Ne.symm npd)
cG.new (o:=Zr) F
Sid G H L A b xs
Gd I.ok.bsz I.sz
FI (HI (Gp Z3V))
ExcAt s.heap x D
(λ r s4 hr=>?_)
(λ n s3 hI=>?_)
(λ c u nc e=>e)
(j.val k).getD D
(eval elt S.env)
(eC (cF gY Z7K))
(cY ZR ZX ZI ZA)
(cY ZR Z2 cJ ZA)
(c.di.lets l hl)
(Z9m).1 (Jf j).1
(Heap.lt_size c)
(HY j.typeIs Zi)
(AP X pins σ Q)
(.tup [ZEK,ZD2])
(.tup [ZAX,Z86])
(.ok (.ret p.2))







(.lst (iV E.sa))
(.lst (iV A.ws))
(.int (cO ln h))
(.cons rfl .nil)
((Z1m).pt Z45).2
⟨o,h1,h2.1⟩
⟨_,hoL,rfl⟩
⟨[],[],[]⟩ 
xs.take i
vals2 r
s5 _ _ e4
s4 _ _ e3
s3 _ _ hb
s1 _ _ hb
old _ _ z
nus q qin
model P w
lo.wf.wd e0 he0
lo.bsl fs
lL H P pos qual
k b u q
k b u (i b n) q
inF y c a
iV ns
hcl x c e
gT A H' v




fZ (n:=0) Z9 Z4

fY Z6m λ y=>?_
eA rfl ?_
e0.hok.fresh Z9
d.val k
cz (Ne.symm a5)
cz (Ne.symm a1)
cO s.ls
cO ln 
cO es i
cG.refl _
c10.held _ _ h3
c x o (G x n) q
c (f b z)
arrOf z
[acc]
[Z4B,Z6Y,.bl b]
[L.p]
Value.int k tok
V.ref y.1
V.int j
SqT.of cy
SqL.of v.kl.1.1
Q .non H'
PS X st t
PE X l tl
PE X i ty
PE X Z2O (tC v)
PE X Z2O (dZ i)
Mut (H x)
Lnm H' l qs nss
List fk
JT _ Z1
Ite K l
I.type (M:=Z3m)
I.hok.fresh hge
Gk (Ne.symm hj)







GS (Kn (Hq ?_))
G.toList.map ke
FX z
FV z
FK.mp q
FJ hj
FI (HG T JY ?_)
FI (Gp (Hh ?_))
F4 he
De t H' D A xss
Array Nat
AllBare s'.gens
.ref wy
.ref td
.ref pa
.ref kb
.int st
.int ep 0
.int 1 tk
.inl q
.inl hb
.inl ZN
.inl (LoL.gj y)
(xs.map (qx H))
(upd H1 acc ZQ)
(trk h H)




(sb1.trans sb2)

(pv 10)
(n1 _ Z8)
(lcg M x)
(iV ls)
(gg te t)
(dZ 2)
(compareOp .In)
(cO bs)
(c.get m)
(bsL A)
(binaryOp .Add)
(List.map_id _)
(Itt K a)
(ItemsOf.nil _)
(FT hx)
(.tbl ps)
(.ref wl)
(.lst lx)
(.lst [.int 0])
(.call Z06 Z4F)
⟨σ,H,I,h⟩
⟨u',r',?_⟩
⟨i.kIn,?_⟩
⟨b1,?_,b3⟩
⟨_,h1,rfl⟩
⟨_,_,_,ZG⟩
wd p q _ hq hE
w2.lZ hn nin r
some (.ref lw)
some (.ref hl)
some (.ref fl)
some (.ref ds)
some (.int nw)
some (.int dg)
s4 _ _ th.self
rk.en T (FT O)







n _ (Z4P).symm
ls'.map (g8 H)
lo.c.il l z nl
k l _ Z81 F cy
jX K t G es As
j.getD i false
hb.imp id .inl
h.update a Z7n
g.hok.fresh Z9
g.held _ _ ZA7
fg i n b v L M
fD H1 G1 G2 H2
e0.hok.kept hk
dm P w H h a u
cz (Ne.symm L)
c7.held _ _ h1
at_ mask a i p
[Z_]
Z h a1 n' Z1 U
TaI ths i k ta
SqT X.K H a xs
SqL.of lo.c.tl
SqL X.K H a xs
SqL K H' a Z1Z
Meth X.K C m f
I2.mT hC hfree




I.freeC x c hc

Good t es.size
FX q
FV λ z=>d z.2
FV q
FV (λ z=>Z79)
FI (Hi F j ?_)
Array GenState
AllBare s.gens
.tup [Z08,Z6Y]
.int es.size 0
.inr ⟨e,h⟩
.inr (.inr ZN)
(λ b u q=>Zy)
(λ b o q=>?_)
(wB 13 i p hi)
(upd H acc Zr)
(s13.trans s4)
(putK kvs k y)
(dD (K:=K) ZI)
(cS fV Z1O cJ)
(bs.map V.ref)
(Z9z).trans s4
(Z3o).trans e1
(Z1s).trans e1
(Obj.mapSeq f)
(.lst (iV ys))
(.cons ZL ZAy)
⟨xs,q,Z9⟩
⟨_,rfl,r⟩
⟨_,FJ hw⟩
⟨J,h1,h2⟩
⟨H,Z1u,q⟩
w.so.filter _
vals1 r1
th.held _ _ z
th.held _ _ e







some Z2P
s7 _ _ e
s6 _ _ e
s5 _ _ e
s3 _ _ e
s12.trans s13
prD p
oK m H x
mC kvs k
lo.wf.rg l hl
lo.pts i T1 z
leap mask i 0
k2 _ _ ne1 e1
id I.loc
hfp b hb
h.2 i e A a b
gC _ _ e
entry_at g4 i
eP s.heap p.1
e0.hok c _ z2
d7.held _ _ e
d5.held _ _ e
cz (cB cy hq)
cM N ps scope
cG.new j
cG.ins nk ndx




cG G' H'

bt5 _ _ np hp
absurd rfl h2
[a,b]
TWf n T0
SqT.of L
SqL.of Z
SqL K H' a xs
Sem Unit
Sem Bool
RelV x v
PSs X body tb
PE X e t
Ne.symm (W e)
Nat.le_refl _
Lk ths A
I.hok T _ tab
I.cell x c hc
Hd.mp a1
HK.mpr h
HE.mpr h
H.push V
H.push J
Gh Z1
GK Z1
FX ZC
FV h
FK.mp hi
FI (JA T1 ?_)
F1 (F9 ZK a6)
Ev te σ H Z_
ElemsOf Z0b l
Bse A ln
.str x t
.lst Z3n
.int i s.toks
.inr Z5z







.inl Z05
(λ i hi=>?_)
(ze (K:=K) T)
(zb (K:=K) T)
(yz (K:=K) T)
(yr (K:=K) T)
(yq (K:=K) T)
(yp (K:=K) T)
(yf (K:=K) T)
(yP (K:=K) T)
(yO (K:=K) T)
(yN (K:=K) T)
(yK (K:=K) T)
(yE (K:=K) T)
(upd H l Z8J)
(uo Z1 Z1 Z1)
(top 37)
(tC Z08)
(some 0)
(sizeAbove n)
(s1 _ _ ts.1)
(qY (K:=K) T)
(ml (K:=K) T)
(getItem o i)
(g8 H v)
(frs X.stack)




(eF.same e a)

(cS gW cJ ZI)
(SP X pins D)
(L.D.own A.A)
(I.cne x c e)
(GV ZCW)
(.ref t.f_dw)
(.ref t.f_dv)
(.ref t.f_du)
(.ref t.f_dt)
(.ref t.f_dr)
(.ref t.f_dq)
(.ref t.f_dm)
(.ref t.f_dh)
(.ref t.f_dg)
(.ref t.f_cw)
(.ref t.f_ct)
(.ref t.f_ci)
(.ref t.f_bv)
(.ref t.f_bu)
(.ref t.f_br)
(.ref t.f_bk)
(.ref t.f_bh)
(.ref t.f_bf)
(.ref t.f_ba)
(.ref t.f_az)
(.ref t.f_ay)
(.ref t.f_as)
(.ref t.f_am)
(.ref J)
(.own f)
((Z80).mpr b)"
end
section
open Lean in
local macro_rules
|`($x:ident)=>do
 match x.getId with
 |.str .anonymous s=>
  let l:=if s.front=='Z'then(Rd.tab.splitOn "\n").getD (s.toList.tail.foldl (fun n c=>n*75+c.toNat-47) 0-1) "" else ""
  if l==""||s=="Z" then Macro.throwUnsupported else return Rd.rd l
 |_=>Macro.throwUnsupported
section
open PySem PySem.W PySem.Spec PyProof.Rows PySem.Calls
abbrev FI:=@wpAny_bind
abbrev FJ:=@List.getElem?_eq_getElem
abbrev FK:=@List.getElem?_eq_some_iff
abbrev FL:=@List.mem_singleton
abbrev FN:=@wpAny_pure
abbrev FO:=@List.length_map
abbrev FP:=@List.getElem?_map
abbrev FQ:=@List.length_append
abbrev FR:=@List.mem_cons
abbrev FT:=@List.mem_of_getElem?
abbrev FU:=@List.not_mem_nil
abbrev FV:=@if_neg
abbrev FW:=@List.mem_cons_of_mem
abbrev FX:=@if_pos
abbrev FY:=@List.mem_append
abbrev FZ:=@List.mem_cons_self
abbrev F0:=@List.map_append
abbrev F1:=@Nat.ne_of_lt
abbrev F2:=@List.mem_map
abbrev F3:=@Array.length_toList
abbrev F4:=@List.mem_map_of_mem
abbrev F5:=@PySem.F.plainAttrs_list
abbrev F6:=@List.length_singleton
abbrev F7:=@List.size_toArray
abbrev F8:=@List.getElem?_set_self
abbrev F9:=@Nat.lt_of_lt_of_le
abbrev Ga:=@or_false
abbrev Gb:=@Bool.false_ne_true
abbrev Gd:=@Nat.le_trans
abbrev Ge:=@Bool.false_eq_true
abbrev Gf:=@List.mem_append_right
abbrev Gg:=@decide_eq_true
abbrev Gh:=@List.getElem?_append_right
abbrev Gi:=@PySem.F.type_list_append
abbrev Gj:=@PySem.F.slot_list_append
abbrev Gk:=@List.getElem?_set_ne
abbrev Gm:=@List.getElem_of_mem
abbrev Gn:=@Array.getElem?_eq_getElem
abbrev Gp:=@wpAny_holding
abbrev Gq:=@List.map_cons
abbrev Gr:=@Int.eq_ofNat_of_zero_le
abbrev Gs:=@Option.map_eq_some_iff
abbrev Gu:=@List.length_take
abbrev Gv:=@Nat.zero_le
abbrev Gw:=@List.getElem?_append_left
abbrev Gx:=@List.append_nil
abbrev Gy:=@List.mem_append_left
abbrev Gz:=@Array.getElem?_toList
abbrev GA:=@decide_eq_true_iff
abbrev GB:=@Int.toNat_natCast
abbrev GC:=@Int.le_refl
abbrev GD:=@List.map_congr_left
abbrev GF:=@List.length_cons
abbrev GG:=@List.mem_filter
abbrev GH:=@of_decide_eq_true
abbrev GI:=@Nat.lt_of_le_of_lt
abbrev GJ:=@List.map_map
abbrev GK:=@List.getElem?_eq_none
abbrev GL:=@wpAny_mono
abbrev GN:=@codeAny_builtin
abbrev GO:=@PySem.mem_of_lookup
abbrev GP:=@List.nodup_append
abbrev GQ:=@List.take_add_one
abbrev GR:=@Int.emod_lt_of_pos
abbrev GS:=@wpS_bind
abbrev GU:=@List.length_filter_le
abbrev GV:=@Nat.ne_of_gt
abbrev GW:=@decide_eq_false
abbrev GX:=@List.nodup_cons
abbrev GY:=@Nat.lt_succ_of_lt
abbrev GZ:=@Nat.lt_irrefl
abbrev G0:=@Array.getElem?_eq_none
abbrev G6:=@plainId_quiet
abbrev G8:=@Nat.lt_succ_self
abbrev G9:=@wpAny_of_eq
abbrev Hb:=@if_false
abbrev Hd:=@List.pairwise_append
abbrev He:=@Int.emod_nonneg
abbrev Hf:=@wpAny_call_entry
abbrev Hg:=@Bool.and_eq_true
abbrev Hh:=@wpAny_truthy_bool
abbrev Hi:=@wpAny_dictEntries
abbrev Hj:=@List.pairwise_map
abbrev Hk:=@List.ext_getElem?
abbrev Hl:=@PySem.W.kia_one
abbrev Hm:=@List.length_set
abbrev Hn:=@Bool.eq_iff_iff
abbrev Ho:=@List.take_length
abbrev Hq:=@wpS_pure
abbrev Hr:=@wpAny_newObj_type
abbrev Hs:=@Nat.sub_self
abbrev Ht:=@List.getElem?_inj
abbrev Hu:=@List.append_assoc
abbrev Hv:=@Array.getElem?_eq_some_iff
abbrev Hw:=@wpAny_updateSeq
abbrev Hx:=@List.lookup_cons
abbrev Hy:=@List.filter_append
abbrev Hz:=@not_or
abbrev HA:=@List.getElem?_of_mem
abbrev HB:=@List.eq_nil_of_length_eq_zero
abbrev HC:=@List.filter_cons_of_pos
abbrev HD:=@List.filter_cons_of_neg
abbrev HE:=@beq_eq_false_iff_ne
abbrev HF:=@PyProof.Rows.callWith_type1
abbrev HG:=@wpAny_isInstance
abbrev HH:=@wpAny_askSetting
abbrev HI:=@wpAny_tryCatch
abbrev HJ:=@wpAny_Call_Name_kw
abbrev HK:=@beq_iff_eq
abbrev HL:=@List.mem_range
abbrev HM:=@List.getD_eq_getElem?_getD
abbrev HN:=@List.length_replicate
abbrev HP:=@size_of_entries
abbrev HQ:=@sizeLine_eq
abbrev HR:=@decide_eq_true_eq
abbrev HS:=@codeAny_call_builtin
abbrev HU:=@Int.le_trans
abbrev HV:=@wpAny_eqBool_int
abbrev HW:=@decide_eq_decide
abbrev HX:=@List.all_eq_true
abbrev HY:=@wpAny_typeNameOfWhole_keyiter
abbrev HZ:=@Nat.le_succ
abbrev Ia:=@wpAny_rule
abbrev Ib:=@tupleKind_room_in1
abbrev Ic:=@Nat.le_of_lt
abbrev Ie:=@List.pairwise_cons
abbrev Ig:=@List.ne_nil_of_mem
abbrev Ih:=@List.map_singleton
abbrev Ii:=@wpAny_passesOwn
abbrev Ij:=@Bool.not_true
abbrev Ik:=@wpAny_pyIter_list
abbrev Il:=@List.length_range
abbrev Im:=@Array.getD_eq_getD_getElem?
abbrev Io:=@wpAny_letGo
abbrev Ip:=@codeAny_mono
abbrev Iq:=@Nat.zero_add
abbrev Ir:=@List.filter_cons
abbrev Iu:=@List.pairwise_iff_getElem
abbrev Iw:=@PySem.W.plainGet_of
abbrev Iy:=@PyProof.Rows.F.plain_set_update_loop
abbrev Iz:=@wpAny_typeNameOf_keyiter
abbrev IA:=@wpAny_standAt
abbrev IB:=@wpAny_attempt
abbrev IC:=@PySem.F.type_list_extend
abbrev ID:=@PySem.F.slot_list_extend
abbrev IE:=@List.getElem?_take_of_lt
abbrev IG:=@if_true
abbrev IH:=@List.forIn_cons
abbrev II:=@List.find?_cons
abbrev IJ:=@wpAny_call
abbrev IK:=@wpAny_callSpecial?_slot
abbrev IL:=@PySem.F.plainAttrs_dict
abbrev IM:=@List.getElem?_replicate
abbrev IP:=@wpS_forRange
abbrev IQ:=@wpAny_seqItems
abbrev IT:=@List.nodup_nil
abbrev IU:=@List.filter_eq_nil_iff
abbrev IV:=@Array.size_map
abbrev IW:=@wpAny_notOrdered_dict
abbrev IY:=@List.mem_iff_getElem?
abbrev IZ:=@wpAny_execs_cons
abbrev I0:=@Option.bind_some
abbrev Ja:=@List.Nodup.length_le_of_subset
abbrev Jb:=@List.any_cons
abbrev Jc:=@wpAny_specialOf
abbrev Jd:=@PySem.F.slot_dict_setdefault
abbrev Je:=@Option.map_some
abbrev Jf:=@List.of_mem_zip
abbrev Jg:=@List.nil_append
abbrev Jh:=@List.map_nil
abbrev Ji:=@wpAny_setField
abbrev Jj:=@PySem.W.callWith_K
abbrev Jk:=@List.length_mapIdx
abbrev Jl:=@Int.lt_of_lt_of_le
abbrev Jm:=@Bool.not_false
abbrev Jn:=@Array.perm_iff_toList_perm
abbrev Jo:=@wpAny_pyIter_enum
abbrev Jp:=@not_false_eq_true
abbrev Jq:=@decide_true
abbrev Jr:=@Nat.lt_trichotomy
abbrev Js:=@wpAny_newList
abbrev Jt:=@List.all_cons
abbrev Ju:=@decide_eq_false_iff_not
abbrev Jv:=@beq_self_eq_true
abbrev Jw:=@Nat.succ_le_succ
abbrev Jx:=@Nat.le_add_right
abbrev Jy:=@List.pairwise_singleton
abbrev Jz:=@List.mem_flatMap
abbrev JA:=@wpAny_typeOf
abbrev JB:=@PySem.W.cellsFrom_some
abbrev JC:=@List.take_of_length_le
abbrev JD:=@List.all_map
abbrev JE:=@Int.zero_add
abbrev JF:=@wpAny_execs_nil
abbrev JG:=@wpAny_dictEpoch
abbrev JH:=@Nat.not_lt_zero
abbrev JI:=@List.filter_nil
abbrev JJ:=@Bool.or_eq_true
abbrev JK:=@codeAny_call_function
abbrev JL:=@PySem.W.methodCall_KW
abbrev JM:=@PySem.F.slot_dict_get
abbrev JN:=@wpS_mono
abbrev JO:=@wpAny_pyIter_keyiter
abbrev JP:=@wpAny_fieldsOf
abbrev JQ:=@List.replicate_succ'
abbrev JR:=@List.getElem?_range
abbrev JS:=@List.filterMap_cons
abbrev JT:=@Nat.mod_lt
abbrev JU:=@List.zip_cons_cons
abbrev JV:=@List.lookup_append
abbrev JW:=@wpAny_storeSet_of
abbrev JX:=@wpAny_pyIter_slot
abbrev JY:=@sub_set_self
abbrev JZ:=@pairsOf_size
abbrev J6:=@decide_false
abbrev J7:=@call_meetsIn
abbrev J8:=@bne_self_eq_false
abbrev J9:=@Nat.lt_trans
abbrev Ka:=@Nat.le_of_eq
abbrev Kb:=@Nat.add_zero
abbrev Kc:=@List.take_sublist
abbrev Kd:=@Int.lt_trans
abbrev Ke:=@Array.toList_push
abbrev Kf:=@PySem.W.makes_of
abbrev Kg:=@List.getElem_mem
abbrev Kh:=@List.append_inj'
abbrev Ki:=@Array.toList_map
abbrev Kj:=@codeAny_of_tree
abbrev Kk:=@List.sum_append
abbrev Kl:=@List.range_succ
abbrev Km:=@wpS_get
abbrev Kn:=@wpS_modify
abbrev Ko:=@wpAny_runValue
abbrev Kq:=@isSubtype_type
abbrev Kr:=@entryFor_alias
abbrev Ks:=@call_meets
abbrev Kt:=@Bool.and_false
abbrev Ku:=@listUpdate_at
end
namespace L2
open PySem PySem.Spec PyProof.Rows
noncomputable abbrev Key:=Sum Int Str
noncomputable def lV:Key->Value->Bool
 | .inl k,v=>Value.isInt k v
 | .inr x,v=>Value.isStrOf x v
noncomputable def AE (w:World):Key->Int
 | .inl k=>ZDs
 | .inr x=>hashStr w x
theorem dX:∀ {k:Key}{v:Value},lV k v=true->(∃ i t,k=Sum.inl i/\v=Value.int i t)\/(∃ x t,k=Sum.inr x/\v=Value.str x t)
 | .inl i,v,h=>by
  obtain⟨t,e⟩:=Value.isInt_shape (k:=i) (v:=v) h
  exact .inl ⟨i,t,rfl,e⟩
 | .inr x,v,h=>by
  obtain⟨t,e⟩:=Value.isStrOf_shape (x:=x) (v:=v) h
  exact .inr ⟨x,t,rfl,e⟩
theorem tG (i) (t):lV (.inl i) (Z9n)=true:=by simp[lV,Value.isInt]
theorem sR (x) (t):lV (.inr x) (ZM6)=true:=by simp[lV,Value.isStrOf]
theorem zP (a b):decide ((Sum.inl a:Key)=Sum.inl b)=(a == b):=by
 by_cases e:a=b
 ·subst e;simp
 ·have h:¬ (Sum.inl a:Key)=Sum.inl b:=λ q=>e (Sum.inl.inj q)
  rw[GW h]
  exact(HE.mpr e).symm
theorem zM (a b):decide ((Sum.inr a:Key)=Sum.inr b)=decide (a=b):=by
 by_cases e:a=b
 ·subst e;simp
 ·have h:¬ (Sum.inr a:Key)=Sum.inr b:=λ q=>e (Sum.inr.inj q)
  rw[GW h,GW e]
theorem zT (a) (b):decide ((Sum.inl a:Key)=Sum.inr b)=false:=GW (λ q=>nomatch q)
theorem Af (a) (b):decide ((Sum.inr a:Key)=Sum.inl b)=false:=GW (λ q=>nomatch q)
noncomputable def dJ (prog:Program) (w:World):PySem.KeyKind prog w Key where
 is:=lV
 hash:=AE w
 inj:=λ v a b ha hb=>by
  rcases dX ha with ⟨i,t,rfl,rfl⟩|⟨x,t,rfl,rfl⟩
  ·rcases dX hb with ⟨j,u,rfl,e⟩|⟨y,u,rfl,e⟩
   ·injection e with e1 _;rw[e1]
   ·exact nomatch e
  ·rcases dX hb with ⟨j,u,rfl,e⟩|⟨y,u,rfl,e⟩
   ·exact nomatch e
   ·injection e with e1 _;rw[e1]
 byValue:=λ k v h=>by
  rcases dX h with ⟨i,t,rfl,rfl⟩|⟨x,t,rfl,rfl⟩<;>rfl
 pyHash:=λ hv h=>by
  rcases dX hv with ⟨i,t,rfl,rfl⟩|⟨x,t,rfl,rfl⟩
  ·exact wpAny_pyHash_int h
  ·exact wpAny_pyHash_str h
 eqBool:=λ hu hv h=>by
  rcases dX hu with ⟨i,t,rfl,rfl⟩|⟨x,t,rfl,rfl⟩
  ·rcases dX hv with ⟨j,u,rfl,rfl⟩|⟨y,u,rfl,rfl⟩
   ·rw[zP] at h;exact HV h
   ·rw[zT] at h;exact SeqAt.EqAt.int_str i t y u _ _ _ _ h
  ·rcases dX hv with ⟨j,u,rfl,rfl⟩|⟨y,u,rfl,rfl⟩
   ·rw[Af] at h;exact SeqAt.EqAt.str_int x t j u _ _ _ _ h
   ·rw[zM] at h;exact wpAny_eqBool_str h
 «strs»:=λ k x t v h=>by
  rcases dX h with ⟨i,u,rfl,e⟩|⟨y,u,rfl,e⟩
  ·exact nomatch e
  ·injection e with e1 _
   subst e1
   cases v<;>rfl
theorem ph (prog) (w) (i) (t):(dJ prog w).is (.inl i) (Z9n)=true:=tG i t
theorem oZ (prog) (w) (x) (t):(dJ prog w).is (.inr x) (ZM6)=true:=sR x t
inductive V where
 | non|bl (b:Bool)|int (i:Int)|str (x:Str)|byt (b:Array UInt8)|flt (b:UInt64)|ref (a:Addr)|ty (n:String)
 deriving DecidableEq
def RelV:V->Value->Prop
 | .non,u=>u=Value.none
 | .bl b,u=>u=Value.bool b
 | .int i,u=>∃ t,u=Value.int i t
 | .str x,u=>∃ t,u=Value.str x t
 | .byt b,u=>∃ t,u=Value.bytes b t
 | .flt b,u=>∃ t,u=Value.float b t
 | .ref a,u=>u=Value.ref a
 | .ty n,u=>u=Value.type n
abbrev Vals:List V->List Value->Prop:=Paired RelV
theorem Vals.length (r:Vals xs us):xs.length=us.length:=Z3A
theorem Vals.get:∀ {xs:List V}{us:List Value}{i:Nat}{x:V},Vals xs us->xs[i]? = some x->∃ u,us[i]? = some u/\RelV x u
 | _,_,_,_,.nil,e=>by simp at e
 | _,_,0,_,.cons r _,e=>by simp at e;subst e;exact ZL2
 | _,_,i+1,x,.cons _ t,e=>by
  obtain⟨u,a,b⟩:=Vals.get (i:=i) (x:=x) t (by simpa using e)
  exact⟨u,by simpa using a,b⟩
theorem Vals.set (r:ZGU):∀ {xs:List V}{us:List Value}(i:Nat),Vals xs us->Vals (xs.set i x) (us.set i u)
 | _,_,_,.nil=>.nil
 | _,_,0,.cons _ t=>.cons r t
 | _,_,i+1,.cons q t=>.cons q (Vals.set r i t)
theorem Vals.append:∀ {xs ys:List V}{us a:List Value},Vals xs us->Vals ys a->Vals (xs++ys) (us++a)
 | _,_,_,_,.nil,s=>s
 | _,_,_,_,.cons r t,s=>.cons r (Vals.append t s)
theorem Vals.take:∀ {xs:List V}{us:List Value}(n:Nat),Vals xs us->Vals (xs.take n) (us.take n)
 | _,_,0,_=>.nil
 | _,_,_+1,.nil=>.nil
 | _,_,n+1,.cons r t=>.cons r (Vals.take n t)
theorem Vals.drop:∀ {xs:List V}{us:List Value}(n:Nat),Vals xs us->Vals (xs.drop n) (us.drop n)
 | _,_,0,r=>r
 | _,_,_+1,.nil=>.nil
 | _,_,n+1,.cons _ t=>Vals.drop n t
def gO:Option V->Option Value->Prop
 | some v,some u=>Z9j
 | none,none=>True
 | _,_=>False
def KV {κ:Type}:List (κ×V)->List (κ×Value)->Prop:=Paired λ(p:κ×V) (q:κ×Value)=>p.1=q.1/\RelV p.2 q.2
noncomputable def kV:Key->V
 | .inl i=>Z08
 | .inr x=>.str x
inductive HO where
 | lst (xs:Z04)
 | tup (xs:Z04)
 | dK (kvs:List (Key×V))|dT (kvs:List (List Key×V))
 | set (S:Int->Bool) (n:Nat)
 | ins (C dx:Addr) (fs:List (Str×V))
 | own (x:Addr)
 | xd (fs:List (Str×V))
 | met (f x:Addr)
 | rng (lo hi:Int)
 | frz (o:Obj) (u:HO)
 | tbl (ps:Z5i)
 | ext (φ:Heap->Prop)
noncomputable abbrev Hp:=Addr->Option HO
noncomputable def upd (H:Hp) (a:Addr) (o:HO):Hp:=λ b=>if b=a then some o else H b
theorem cy:upd H a o a=some o:=by unfold upd;rw[Z1X]
theorem cz (h:b≠a):upd H a o b=H b:=by unfold upd;rw[ZLz]
theorem gv:upd Z3W a u=upd H a u:=by
 funext b;unfold upd;split<;>rfl
theorem fO {H:Hp}{a b:Addr}{o u:HO}(h:H a=some o) (h':H b=some u) (d:o≠u):a≠b:=by
 intro e;subst e;rw[h] at h';exact d (Option.some.inj h')
theorem cB {H:Hp}{a b:Addr}{o:HO}(h:H a=some o) (h':H b=none):a≠b:=by
 intro e;subst e;rw[h] at h';cases h'
section
variable (P:Program) (w:World)
def dm (H:Hp) (h:Heap) (a:Addr):HO->Prop
 | .lst xs=>xs.length<=sizeLine/\∃ (its:List Value) (n:Nat),Vals xs its/\h.get? a=some { cls:=.type "list",data:=Z1A}
 | .tup xs=>xs.length<=sizeLine/\∃ its:List Value,Vals xs its/\IsTup h a its.toArray
 | .dK kvs=>kvs.length<=sizeLine/\(a == sysModules)=false/\∃ vs,KV kvs vs/\h.DictOf ZDG a vs
 | .dT kvs=>kvs.length<=sizeLine/\(a == sysModules)=false/\∃ xs:List (List Key×Addr×Value),
   Paired (λ(p:List Key×V) (q:List Key×Addr×Value)=>p.1=q.1/\H q.2.1=some ZG5/\RelV p.2 q.2.2) kvs xs /\
   ∃ o es ep,h.get? a=some o/\o.ExactDict/\o.data=.dict es ep/\es.toList=xs.map (entryOfKey Z31)/\(xs.map (·.1)).Nodup
 | .set S n=>h.SetOf Z0b a S n
 | .ins C dx fs=>H dx=some ZDP/\fs.length<=1000/\dx≠a/\h.get? a=some Z66 /\
   ∃ mA,h.Ns1 dx mA/\(∀ f,Z5b)/\PySem.Within mA (fs.map (·.1))
 | .own _=>∃ o,h.get? a=some o
 | .xd fs=>∃ mA,h.Ns1 a mA/\∀ f,Z5b
 | .rng lo hi=>∃ t u v,h.get? a=some { cls:=.type "range",data:=.fields #[Z85,Z87,Z9o] }
 | .frz o u=>h.get? a=some o/\dm H h a u
 | .tbl ps=>h.get? a=some { cls:=.none,data:=ZFk}
 | .met f x=>h.get? a=some (PySem.W.methodObj Z06 Z2b)
 | .ext φ=>φ h/\(∃ o,h.get? a=some o)/\∀ h1 h2:Heap,φ h1->(∀ o,h1.get? a=some o->h2.get? a=some o)->φ h2
def HOk (H:Hp) (h:Heap):Prop:=∀ a o,H a=some o->dm P w H h a o
end
section
variable {P:Program}{w:World}{H H':Hp}{h h':Heap}{a:Addr}{o:HO}
theorem dm.lt (x:ZBP):a<h.objs.size:=by
 cases o with
 | lst xs=>obtain⟨_,_,_,_,e⟩:=x;exact ZK
 | tup xs=>obtain⟨_,_,_,p⟩:=x;exact p.lt
 | dK kvs=>obtain⟨_,_,_,_,o,_,_,e,_⟩:=x;exact ZK
 | dT kvs=>obtain⟨_,_,_,_,o,_,_,e,_⟩:=x;exact ZK
 | set S n=>obtain⟨o,_,_,_,e,_⟩:=x;exact ZK
 | ins C dx fs=>obtain⟨_,_,_,e,_⟩:=x;exact ZK
 | own y=>obtain⟨_,e⟩:=x;exact ZK
 | xd fs=>obtain⟨_,⟨_,_,_,e,_⟩,_⟩:=x;exact ZK
 | rng lo hi=>obtain⟨_,_,_,e⟩:=x;exact ZK
 | frz ob u=>obtain⟨e,_⟩:=x;exact ZK
 | tbl ps=>exact Heap.lt_size (show h.get? a=some _ from x)
 | met f y=>exact Heap.lt_size (show h.get? a=some _ from x)
 | ext φ=>obtain⟨_,⟨_,e⟩,_⟩:=x;exact ZK
theorem Paired.zx:∀ {c:List α}{d:List β},Paired F c d->(∀ a b,F a b->G a b)->Paired G c d
 | _,_,.nil,_=>.nil
 | _,_,.cons r t,f=>.cons (f _ _ r) (Paired.zx t f)
theorem dm.lI (x:ZBP) (k:∀ b u,(b=a\/H b=some ZDP)->h.get? b=some u->h'.get? b=some u)
  (ho:∀ b,H b=some ZDP->H' b=some ZDP) (ht:∀ b xs,H b=some ZU->H' b=some ZU):dm P w H' h' a o:=by
 induction o with
 | lst xs=>obtain⟨z,its,n,r,e⟩:=x;exact⟨z,its,n,r,Z1f⟩
 | tup xs=>obtain⟨z,its,r,ob,e,c⟩:=x;exact⟨z,its,r,ob,Z1f,c⟩
 | dK kvs=>obtain⟨z,y,vs,r,ob,es,ep,e,c⟩:=x;exact⟨z,y,vs,r,ob,es,ep,Z1f,c⟩
 | dT kvs=>
  obtain⟨z,y,xs,r,ob,es,ep,e,c⟩:=x
  exact⟨z,y,xs,Paired.zx r λ p q z=>⟨z.1,ht _ _ z.2.1,z.2.2⟩,ob,es,ep,Z1f,c⟩
 | set S n=>obtain⟨ob,es,ep,t,e,c⟩:=x;exact⟨ob,es,ep,t,Z1f,c⟩
 | ins C dx fs=>
  obtain⟨d,z,ne,e,mA,⟨od,es,ep,e2,c⟩,r⟩:=x
  exact⟨ho _ d,z,ne,Z1f,mA,⟨od,es,ep,k _ _ (.inr d) e2,c⟩,r⟩
 | own y=>obtain⟨ob,e⟩:=x;exact⟨ob,Z1f⟩
 | xd fs=>obtain⟨mA,⟨od,es,ep,e,c⟩,r⟩:=x;exact⟨mA,⟨od,es,ep,Z1f,c⟩,r⟩
 | rng lo hi=>obtain⟨t,u,v,e⟩:=x;exact⟨t,u,v,Z1f⟩
 | frz ob u ih=>obtain⟨e,q⟩:=x;exact⟨Z1f,ih q⟩
 | tbl ps=>
  have e:h.get? a=some { cls:=.none,data:=ZFk}:=x
  show h'.get? a=some { cls:=.none,data:=ZFk}
  exact k a _ Z0N e
 | met f y=>
  have e:h.get? a=some Z8R:=x
  show h'.get? a=some Z8R
  exact k a _ Z0N e
 | ext φ=>obtain⟨p,⟨o,e⟩,st⟩:=x;exact⟨st _ _ p λ o q=>k _ _ Z0N q,⟨o,Z1f⟩,st⟩
theorem HOk.lt (x:Z0c) (e:H a=some o):a<h.objs.size:=(x a o e).lt
theorem HOk.fresh (x:Z0c) (e:h.objs.size<=a):H a=none:=by
 cases q:H a with
 | none=>rfl
 | some u=>exact absurd (F9 (x.lt q) e) Z60
theorem HOk.kept (x:Z0c) (k:∀ b u,h.get? b=some u->h'.get? b=some u):HOk P w H h':=λ a o e=>
 (x a o e).lI (λ b u _ q=>ZIU) ZFp λ _ _ q=>q
theorem HOk.laid (x:Z0c) (k:∀ b u,h.get? b=some u->h'.get? b=some u) (i:h.objs.size<=a) (d:dm P w Z3W h' a o):HOk P w Z3W h':=λ b u e=>by
 have g:=x.fresh i
 by_cases f:b=a
 ·subst f;rw[cy] at e;cases e;exact d
 ·rw[cz f] at e
  exact(x b u e).lI (λ c v _ q=>k c v q) (λ c q=>by rw[cz (cB q g)];exact q) λ c j q=>by rw[cz (cB q g)];exact q
end
def Rd (H:Hp) (a:Addr) (u:HO):Prop:=H a=some u\/∃ o,H a=some Z2L
theorem Rd.ok (r:Rd H a u) (x:Z0c):ZKN:=by
 rcases r with r|⟨o,r⟩
 ·exact x a u r
 ·obtain⟨_,q⟩:=x a _ r
  exact q
def Mut:Option HO->Prop
 | some (.lst _)=>True
 | some (.dK _)=>True
 | some (.dT _)=>True
 | some (.set _ _)=>True
 | some (.ins _ _ _)=>True
 | some (.ext _)=>True
 | _=>False
section
variable {P:Program}{w:World}{H:Hp}{h h':Heap}{x e:Addr}{o':HO}
theorem HOk.write (B:Z0c) (l:ZJ2) (s:e=x\/H e=some Z4w) (k:∀ b u,b≠e->h.get? b=some u->h'.get? b=some u) (n:∃ u,h'.get? e=some u)
  (p:dm P w (upd H x o') h' x o'):HOk P w (upd H x o') h':=λ b u q=>by
 have f:∀ c y,H c=some (.own y)->c≠x:=λ c y r z=>by subst z;rw[r] at l;exact l
 have g:∀ c m,H c=some (.tup m)->c≠x:=λ c m r z=>by subst z;rw[r] at l;exact l
 by_cases i:b=x
 ·subst i;rw[cy] at q;cases q;exact p
 ·rw[cz i] at q
  by_cases d:b=e
  ·have t:H b=some Z4w:=by
    rcases s with z|z
    ·exact absurd (d.trans z) i
    ·rw[d];exact z
   rw[q] at t;cases t
   obtain⟨v,A⟩:=n
   exact⟨v,by rw[d];exact A⟩
  ·refine(B b u q).lI (λ c v j r=>k c v ?_ r) (λ c r=>by rw[cz (f c b r)];exact r) λ c m r=>by rw[cz (g c m r)];exact r
   rcases j with rfl|j
   ·exact d
   ·rintro rfl
    rcases s with z|z
    ·exact f c b j z
    ·rw[j] at z;cases z;exact i rfl
end
structure Un (fs ex:List Addr) (H H':Hp) (h h':Heap):Prop where
 keep:∀ b o,h.get? b=some o->H b=none->b∉fs->b∉ex->h'.get? b=some o
 slot:∀ b o,h.get? b=some o->H b=none->b∈fs->b∉ex->∃ sl,h'.get? b=some { o with slots:=sl }
 free:∀ b o,h.get? b=some o->H b=none->b∉ex->H' b=none
 there:∀ b o,h.get? b=some o->b∉ex->∃ o',h'.get? b=some o'
 tups:∀ b xs,H b=some ZU->H' b=some ZU
 frzs:∀ b o u,H b=some Z2L->H' b=some Z2L
 tbls:∀ b ps,H b=some ZJp->∃ more,H' b=some (.tbl (ps++more))
section
variable {fs fs' ex ex':List Addr}{H H1 H2:Hp}{h h1 h2 h':Heap}{a x e:Addr}{o:HO}
theorem Un.any (u:ZGQ) (q:h.get? b=some ob) (n:H b=none) (d:b∉ex):∃ f,h1.get? b=some { ob with slots:=f }:=by
 by_cases c:b∈fs
 ·exact u.slot b ob q n c d
 ·exact⟨ob.slots,u.keep b ob q n c d⟩
theorem Un.kept (k:∀ b u,h.get? b=some u->h'.get? b=some u):Un fs ex H H h h':=
 ⟨λ b c q _ _ _=>k b c q,λ b c q _ _ _=>⟨c.slots,k b c q⟩,λ _ _ _ n _=>n,λ b c q _=>⟨c,k b c q⟩,λ _ _ q=>q,λ _ _ _ q=>q,λ _ d q=>⟨#[],by rw[q];simp⟩⟩
theorem Un.refl:Un fs ex H H h h:=Un.kept λ _ _ q=>q
theorem Un.laid (k:∀ b u,h.get? b=some u->h'.get? b=some u) (d:h.objs.size<=a) (c:H a=none):Un fs ex H Z3W h h' where
 keep:=λ b u q _ _ _=>ZIU
 slot:=λ b u q _ _ _=>⟨u.slots,ZIU⟩
 free:=λ b u q n _=>by rw[cz (F1 (F9 Z3e d))];exact n
 there:=λ b u q _=>⟨u,ZIU⟩
 tups:=λ b f q=>by rw[ZFO];exact q
 frzs:=λ b u f q=>by rw[ZFO];exact q
 tbls:=λ b g q=>⟨#[],by rw[ZFO,q];simp⟩
theorem Un.write (d:ZJ2) (l:e=x\/H e=some Z4w) (k:∀ b u,b≠e->h.get? b=some u->h'.get? b=some u) (f:∃ u,h'.get? e=some u):Un fs ex H ZFq h h':=by
 have j:∀ b,H b=none->b≠x:=λ b n z=>by subst z;rw[n] at d;exact d
 have i:∀ b,H b=none->b≠e:=λ b n z=>by
  subst z
  rcases l with r|r
  ·exact j b n r
  ·rw[n] at r;cases r
 have g:∀ b u,H b=some u->¬ Mut Z9q->b≠x:=λ b u q m z=>by subst z;rw[q] at d;exact m d
 refine⟨λ b u q n _ _=>ZIV,λ b u q n _ _=>⟨u.slots,ZIV⟩,λ b u q n _=>by rw[cz (j b n)];exact n,λ b u q _=>?_,
  λ b p q=>by rw[Z6s];exact q,λ b u p q=>by rw[Z6s];exact q,λ b s q=>⟨#[],by rw[Z6s,q];simp⟩⟩
 by_cases c:b=e
 ·subst c;exact f
 ·exact⟨u,k b u c q⟩
theorem Un.mono (u:ZGQ) (hs:∀ b∈fs,b∈fs') (f:∀ b∈ex,b∈ex'):Un fs' ex' H H1 h h1:=
 ⟨λ b d q n g c=>u.keep b d q n (λ z=>g (hs b z)) λ z=>ZIm,λ _ _ q n _ c=>u.any q n λ z=>c (f _ z),λ b d q n c=>u.free b d q n λ z=>ZIm,λ b d q c=>u.there b d q λ z=>ZIm,u.tups,u.frzs,u.tbls⟩
end
noncomputable def trk (h:Heap) (H:Hp):Zq:=(Z62).filter λ a=>(H a).isSome
noncomputable def lK (h:Heap) (H:Hp):Heap:=PySem.W.hideAll h ZJZ
theorem sP (h) (H:Hp):(lK h H).objs.size=h.objs.size:=PySem.W.hideAll_size _ _
theorem wj (e:h.get? b=some o) (n:H b=none):(lK h H).get? b=some o:=
 PySem.W.hideAll_get _ e λ c=>by
  have q:(H b).isSome=true:=(GG.mp c).2
  rw[n] at q;simp at q
theorem xn (e:(lK h H).get? b=some o):h.get? b=some o/\H b=none:=by
 have c:h.get? b=some o:=PySem.W.of_hideAll ZJZ e
 refine⟨c,?_⟩
 cases q:H b with
 | none=>rfl
 | some x=>
  have d:b∈trk h H:=GG.mpr ⟨HL.mpr ZI4,by simp[q]⟩
  have z:(lK h H).get? b=none:=PySem.W.hideAll_none ZJZ d
  rw[z] at e;cases e
noncomputable def wY (g h:Heap) (L:Addr):List (Addr×Obj):=(Z62).filterMap λ a=>if a=L\/(g.get? a).isSome=true then none else (h.get? a).map λ o=>(a,o)
noncomputable def rest (g h:Heap) (L d:Addr):List (Addr×Obj):=(wY g h L).filter λ p=>decide (p.1≠d)
structure Mod (K:PySem.W.Frag) (mg:Str->Option Value) (base:Heap):Prop where
 kin:K.In base
 glob:base.Ns mainGlobals mg
 blt:∃ mb,base.Ns builtinsNs mb/\∀ x:Str,x ≠ "__name__" -> mb x=bootBuiltins x
 nolimit:base.NoLimit
structure Cx where
 prog:Program
 w:World
 K:PySem.W.Frag
 mg:Str->Option Value
 base:Heap
 A:Around
 N:ZT
 s₀:Shared
 H₀:Hp
 env:Env
 outer:Z4A
 stack:Z4A
 ex:Zq
 fn:Str->Bool
 calm:Bool
 pn:List (Addr×Obj)
 xe:Value->Shared->Prop
noncomputable def frs (l:Z4A):Zq:=l.filterMap (·.frame)
noncomputable abbrev Cx.fs (X:Cx):Zq:=frs X.outer
def Vis (sc:Scope) (x:Str):Prop:=sc.names.lookup x=some .local\/sc.names.lookup x=some .cell\/sc.names.lookup x=some .free
def Loc (sc:Scope) (x:Str):Prop:=sc.names.lookup x=some .local\/sc.names.lookup x=some .cell
def Look (env:Env) (h:Heap) (m:Str->Option Value) (x:Str) (u:Value):Prop:=
 (env.kindOf x=some .local/\m x=some u)\/((env.kindOf x=some .cell\/env.kindOf x=some .free)/\∃ c,env.cells.lookup x=some c/\h.IsCell c Z9q)
structure Cx.Ok (X:Cx):Prop where
 mod:ZFY
 kind:X.env.scope.kind=.function
 glob:X.env.globals=mainGlobals
 blt:X.env.builtins=builtinsNs
 above:X.s₀.heap.objs.size<=X.env.locals
 inj:∀ x y c,X.env.cells.lookup x=some c->X.env.cells.lookup y=some c->x=y
 has:∀ x,(X.env.kindOf x=some .cell\/X.env.kindOf x=some .free)->∃ c,X.env.cells.lookup x=some c
 cab:∀ x c,X.fn x=true->X.env.cells.lookup x=some c->X.s₀.heap.objs.size<=c
 hd:X.calm=true->X.A.handled=none
 frames:X.A.frames=some X.stack
 stk:X.stack=X.outer\/(X.stack=X.env::X.outer/\X.env.frame=some X.env.locals)
 exf:∀ b∈X.ex,b≠X.env.locals/\∀ x c,X.env.cells.lookup x=some c->c≠b
 bs:∀ b o,X.base.get? b=some o->X.s₀.heap.get? b=some o/\X.H₀ b=none
 bsz:X.base.objs.size<=X.s₀.heap.objs.size
 noex:∀ b o,X.base.get? b=some o->b∉X.ex
 exfs:∀ b∈X.ex,b∉X.fs
 jH:X.s₀.heap.FunFrames X.base X.outer
 frf:∀ b∈X.fs,X.H₀ b=none
structure Inv (X:Cx) (pins:List (Addr×Obj)) (σ:List (Option V)) (H:Hp) (s:Shared):Prop where
 ok:X.Ok
 os:s.os=X.s₀.os
 bare:ZKh
 base:Un X.fs X.ex X.H₀ H X.s₀.heap s.heap
 loc:∃ m,s.heap.Ns X.env.locals m/\∀ (i:Nat) (x:Str) (v:V),X.N[i]? = some x->σ[i]? = some Z3h->Vis X.env.scope x->∃ u,RelV v u/\Look X.env s.heap m x u
 cell:∀ x c,X.env.cells.lookup x=some c->∃ v,s.heap.IsCell c v
 free:H X.env.locals=none
 freeC:∀ x c,X.env.cells.lookup x=some c->H c=none\/(X.fn x=false/\∃ o u,H c=some Z2L)
 pin:∀ p∈X.pn++pins,s.heap.get? p.1=some p.2/\H p.1=none/\p.1≠X.env.locals/\p.1∉X.fs/\∀ v,p.2.data≠.cell v
 hok:HOk X.prog X.w H s.heap
 len:σ.length=X.N.length
section
variable {X:Cx}{pins:List (Addr×Obj)}{σ:List (Option V)}{H H':Hp}{s:Shared}{h':Heap}
theorem Cx.Ok.Ft (d:X.Ok) (e:X.base.get? b=some o):b∉X.fs:=λ c=>by
 have:=(d.jH.mem c).1
 rw[e] at this;cases this
theorem Inv.bs (I:Z7):∀ b o,X.base.get? b=some o->s.heap.get? b=some o/\H b=none:=λ b o e=>
 ⟨I.base.keep b o (Z84).1 (Z84).2 (I.ok.Ft e) ZHR,I.base.free b o (Z84).1 (Z84).2 ZHR⟩
theorem Inv.bk (I:Z7):∀ b o,X.base.get? b=some o->s.heap.get? b=some o:=λ b o e=>(I.bs b o e).1
theorem Inv.mod (I:Z7):ZFY:=I.ok.mod
theorem Inv.kIn (I:Z7):X.K.In s.heap:=I.ok.mod.kin.keeps I.bk
theorem Inv.lt (I:Z7):X.env.locals<s.heap.objs.size:=let ⟨_,b,_⟩:=I.loc;b.lt
theorem Inv.sz (I:Z7):X.s₀.heap.objs.size<=s.heap.objs.size:=Gd I.ok.above (Ic I.lt)
theorem Inv.Fv (I:Z7) (h:s.heap.objs.size<=a):a∉X.fs:=λ b=>by
 obtain⟨_,o,c,_⟩:=I.ok.jH.mem b
 exact absurd (F9 ZI4 (Gd I.sz h)) Z60
theorem Inv.cne (I:Z7):∀ x c,X.env.cells.lookup x=some c->c≠X.env.locals:=λ x c e z=>by
 obtain⟨v,o,g,f⟩:=Z97
 obtain⟨m,⟨o',j,i,d,b,_⟩,_⟩:=I.loc
 rw[z,d] at g;cases g;rw[b] at f;cases f
theorem Inv.jH (I:Z7):s.heap.FunFrames X.base X.outer:=by
 have all:∀ (l:List Env),(∀ b∈frs l,b∈X.fs)->X.s₀.heap.FunFrames X.base l->s.heap.FunFrames X.base l:=by
  intro l
  induction l with
  | nil=>intro _ _;trivial
  | cons env r ih=>
   intro hs hl
   obtain⟨hk,⟨L,o,hf,hn,ho,hd⟩,hr⟩:=hl
   have hL:L∈X.fs:=hs L (by unfold frs;rw[JS,hf];exact FZ)
   obtain⟨sl,e⟩:=I.base.slot L o ho (I.ok.frf L hL) hL λ z=>I.ok.exfs L z hL
   exact⟨hk,⟨L,_,hf,hn,e,hd⟩,ih (λ b hb=>hs b (by unfold frs;rw[JS,hf];exact FW _ hb)) hr⟩
 exact all X.outer (λ _ hb=>hb) I.ok.jH
theorem Inv.stack (I:Z7):s.heap.FunFrames X.base X.stack:=by
 rcases I.ok.stk with e|⟨e,b⟩
 ·rw[e];exact I.jH
 ·rw[e]
  obtain⟨m,c,_⟩:=I.loc
  refine .cons (by rw[I.ok.kind];decide) b c ?_ I.jH
  exact Heap.get?_none_of_le (Gd I.ok.bsz I.ok.above)
theorem Inv.mJ (I:Z7):∀ b∈frs X.stack,b∈X.env.locals::X.fs:=λ b hb=>by
 rcases I.ok.stk with e|⟨e,hf⟩
 ·rw[e] at hb;exact FW _ hb
 ·rw[e] at hb
  unfold frs at hb
  rw[JS,hf] at hb
  exact hb
theorem Inv.m6 (I:Z7):∀ b∈frs X.stack,H b=none:=λ b hb=>by
 rcases FR.mp (I.mJ b hb) with e|hb
 ·rw[e];exact I.free
 ·obtain⟨_,o,ho,_⟩:=I.ok.jH.mem hb
  exact I.base.free b o ho (I.ok.frf b hb) λ z=>I.ok.exfs b z hb
theorem Inv.step {g':ZKg}{t':Nat}{d':Drawn}{ch:Zq}(I:Z7)
  (A:∀ b∈ch,(b∈X.ex\/X.s₀.heap.objs.size<=b)/\b≠X.env.locals/\(∀ x c,X.env.cells.lookup x=some c->c≠b)/\∀ p∈X.pn++pins,p.1≠b)
  (B:∀ b o,b≠X.env.locals->b∉X.fs->b∉ch->s.heap.get? b=some o->H b=none->h'.get? b=some o)
  (F:∀ b o,b≠X.env.locals->b∈X.fs->b∉ch->s.heap.get? b=some o->H b=none->∃ U,h'.get? b=some { o with slots:=U }) (g:∀ b o,b∉ch->s.heap.get? b=some o->H b=none->H' b=none)
  (L:∀ b o,b∉ch->s.heap.get? b=some o->∃ o',h'.get? b=some o')
  (R:∀ b xs,H b=some ZU->H' b=some ZU) (y:∀ b o u,H b=some Z2L->H' b=some Z2L) (Q:∀ b T,H b=some (.tbl T)->∃ N,H' b=some (.tbl (T++N)))
  (ns:∀ m,s.heap.Ns X.env.locals m->h'.Ns X.env.locals m) (M:Z6u) (hg:AllBare g') :
  Inv X pins σ H' { s with heap:=h',gens:=g',drawn:=d',toks:=t' }:=by
 have O:∀ b o,X.s₀.heap.get? b=some o->b≠X.env.locals:=λ b o e=>F1 (F9 ZK I.ok.above)
 have E:∀ b o,X.s₀.heap.get? b=some o->b∉X.ex->b∉ch:=λ b o e f J=>by
  rcases (A b J).1 with z|z
  ·exact f z
  ·exact absurd (F9 ZK z) Z60
 have t:∀ x c,X.env.cells.lookup x=some c->∀ v,s.heap.IsCell c v->h'.IsCell c v:=λ x c e v ⟨o,K,S⟩=>by
  have C:c∉ch:=λ z=>ZDM
  rcases I.freeC x c e with D|⟨_,of,uf,D⟩
  ·by_cases W:c∈X.fs
   ·obtain⟨U,q⟩:=F c o ZMd W C K D
    exact⟨_,q,S⟩
   ·exact⟨o,B c o ZMd W C K D,S⟩
  ·obtain⟨j,_⟩:=I.hok c _ D
   obtain⟨G,_⟩:=M c _ (y c _ _ D)
   rw[K] at j;cases j
   exact⟨o,G,S⟩
 refine⟨I.ok,I.os,hg,⟨λ b o e n J f=>?_,λ b o e n J f=>?_,λ b o e n f=>?_,λ b o e f=>?_,λ b xs e=>R b xs (I.base.tups b xs e),λ b o xs e=>y b o xs (I.base.frzs b o xs e),λ b T e=>?_⟩,?_,λ x c e=>?_,?_,λ x c e=>?_,λ p Y=>?_,M,I.len⟩
 ·exact B b o (O b o e) J ZAv (I.base.keep b o e n J f) Z5q
 ·obtain⟨U,j⟩:=I.base.slot b o e n J f
  obtain⟨V,G⟩:=F b _ (O b o e) J ZAv j Z5q
  exact⟨V,G⟩
 ·obtain⟨o',j⟩:=ZEx
  exact g b o' ZAv j Z5q
 ·obtain⟨o',j⟩:=ZEx
  exact L b o' ZAv j
 ·obtain⟨m1,j⟩:=I.base.tbls b T e
  obtain⟨m2,G⟩:=Q b _ j
  exact⟨m1++m2,by rw[G,Array.append_assoc]⟩
 ·obtain⟨m,hn,hl⟩:=I.loc
  refine⟨m,ns m hn,λ i x v j G e3=>?_⟩
  obtain⟨u,r,l⟩:=hl i x v j G e3
  refine⟨u,r,?_⟩
  rcases l with l|⟨k,c,e,z⟩
  ·exact .inl l
  ·exact .inr ⟨k,c,e,t x c e _ z⟩
 ·obtain⟨v,z⟩:=Z97
  exact⟨v,t x c e v z⟩
 ·obtain⟨m,⟨o,_,_,K,_⟩,_⟩:=I.loc
  exact g _ o (λ z=>(A _ z).2.1 rfl) K I.free
 ·obtain⟨v,o,K,S⟩:=Z97
  rcases I.freeC x c e with D|⟨hf,of,uf,D⟩
  ·exact .inl (g c o (λ z=>ZDM) K D)
  ·exact .inr ⟨hf,of,uf,y c _ _ D⟩
 ·obtain⟨e,n,Z,nf,d⟩:=I.pin p Y
  have C:p.1∉ch:=λ z=>(A p.1 z).2.2.2 p Y rfl
  exact⟨B p.1 p.2 Z nf C e n,g p.1 p.2 C e n,Z,nf,d⟩
theorem Inv.un {t':Nat}(I:Z7) (u:Un X.fs [] H H' s.heap h') (i:Z6u):Inv X pins σ H' { s with heap:=h',toks:=t' }:=by
 obtain⟨m,⟨o,t,q,j,r⟩,_⟩:=ZLN
 obtain⟨y,k⟩:=u.any j I.free Z8
 exact I.step (g':=s.gens) (d':=s.drawn) (ch:=[]) (λ _ z=>nomatch z) (λ b o _ g _ e n=>u.keep b o e n g Z8) (λ b o _ g _ e n=>u.slot b o e n g Ze) (λ b o _ e n=>u.free b o e n Z8F) (λ b o _ e=>u.there b o e ZFQ) u.tups u.frzs u.tbls (λ v l=>by
  obtain⟨o',f,d,c,p⟩:=l
  rw[j] at c;cases c
  exact⟨_,f,d,k,p⟩) i I.bare
theorem Inv.call {g':ZKg}{t':Nat}{d':Drawn}{ch:Zq}(I:Z7) (u:Un ZMZ ch H H' s.heap h') (hok:Z6u) (hg:AllBare g')
  (hch:∀ b∈ch,(b∈X.ex\/X.s₀.heap.objs.size<=b)/\b≠X.env.locals/\(∀ x c,X.env.cells.lookup x=some c->c≠b)/\∀ p∈X.pn++pins,p.1≠b) :
  Inv X pins σ H' { s with heap:=h',gens:=g',drawn:=d',toks:=t' }:=by
 obtain⟨m,⟨o,es,ep,ho,r⟩,_⟩:=ZLN
 obtain⟨sl,hL⟩:=u.any ho I.free λ z=>(hch _ z).2.1 rfl
 exact I.step (ch:=ch) hch (λ b o hL hb hc e n=>u.keep b o e n (λ z=>(FR.mp (I.mJ b z)).elim hL hb) hc) (λ b o _ _ hc e n=>u.any e n hc) (λ b o hc e n=>u.free b o e n hc) (λ b o hc e=>u.there b o e hc) u.tups u.frzs u.tbls (λ m' hm=>by
  obtain⟨o',es',ep',ho',r'⟩:=hm
  rw[ho] at ho';cases ho'
  exact⟨_,es',ep',hL,r'⟩) hok hg
theorem Inv.turned {t':Nat}{d:Addr}(I:Z7) (k:∀ b o,b≠d->s.heap.get? b=some o->h'.get? b=some o) (B:H d=none) (i:d≠X.env.locals)
  (h1:d∈X.ex\/X.s₀.heap.objs.size<=d) (h2:∀ x c,X.env.cells.lookup x=some c->c≠d) (t:∀ p∈X.pn++pins,p.1≠d):Inv X pins σ H { s with heap:=h',toks:=t' }:=by
 have g:∀ b u,H b=some u->b≠d:=λ b u e z=>by rw[z,B] at e;cases e
 refine I.step (g':=s.gens) (d':=s.drawn) (ch:=[d]) (λ b y=>?_) (λ b o _ _ f e _=>k b o (λ z=>f (by simp[z])) e) (λ b o _ _ f e _=>⟨o.slots,k b o (λ z=>f (by simp[z])) e⟩) (λ _ _ _ _ n=>n)
  (λ b o f e=>⟨o,k b o (λ z=>f (by simp[z])) e⟩) (λ _ _ e=>e) (λ _ _ _ e=>e) (λ b D e=>⟨#[],by rw[e];simp⟩) (λ m A=>?_) (λ b u e=>?_) I.bare
 ·have e:b=d:=by simpa using y
  subst e
  exact⟨h1,i,h2,t⟩
 ·obtain⟨o,l,j,C,r⟩:=A
  exact⟨o,l,j,k _ o (Ne.symm i) C,r⟩
 ·refine(ZFc).lI (λ c v f q=>k c v ?_ q) ZFp λ _ _ q=>q
  rcases f with z|z
  ·rw[z];exact g b u e
  ·exact g c _ z
theorem Inv.tok (I:Z7) (t):Inv X pins σ H { s with toks:=t }:=I.un (h':=s.heap) (t':=t) Un.refl I.hok
theorem Inv.kept (I:Z7) (k:∀ b u,s.heap.get? b=some u->h'.get? b=some u):Inv X pins σ H { s with heap:=h',toks:=t' }:=I.un (Un.kept k) (I.hok.kept k)
theorem Inv.laid (I:Z7) (k:∀ b u,s.heap.get? b=some u->h'.get? b=some u) (c:s.heap.objs.size<=a) (d:ZBz) :
  Inv X pins σ Z3W { s with heap:=h',toks:=t' }:=I.un (Un.laid k c (I.hok.fresh c)) (I.hok.laid k c d)
theorem Inv.write (I:Z7) (g:ZJ2) (f:e=x\/H e=some Z4w) (k:∀ b u,b≠e->s.heap.get? b=some u->h'.get? b=some u) (c:∃ u,h'.get? e=some u)
  (d:dm X.prog X.w ZFq h' x o):Inv X pins σ ZFq { s with heap:=h',toks:=t' }:=I.un (Un.write g f k c) (I.hok.write g f k c d)
theorem Inv.ri (I:Z7) (h:∀ p∈b,s.heap.get? p.1=some p.2/\H p.1=none/\p.1≠X.env.locals/\p.1∉X.fs/\∀ v,p.2.data≠.cell v):Inv X b σ H s:=
 ⟨I.ok,I.os,I.bare,I.base,I.loc,I.cell,I.free,I.freeC,λ p c=>(FY.mp c).elim (λ z=>I.pin p (Gy _ z)) (h p),I.hok,I.len⟩
theorem nU {N:ZT}(f:N.Nodup) {i j:Nat}{x:Str}(a:N[i]? = some x) (b:N[j]? = some x):i=j:=by
 obtain⟨h1,c⟩:=FK.mp a
 obtain⟨h2,d⟩:=FK.mp b
 exact(List.getElem_inj f).mp (c.trans d.symm)
theorem lW {M:Model}{A:Around}{E:Value->Shared->Prop}{i:Nat}{x:Str}{v:V}{u:Value}{Q:Unit->Shared->Prop}(I:Z7) (hN:X.N.Nodup) (hi:X.N[i]? = some x) (hx:Z5L) (r:Z9j)
  (h:∀ s',Inv X pins ZBb H s'->(∃ a,Heap.SameBut a s.heap s'.heap/\(a=X.env.locals\/X.env.cells.lookup x=some a))->Q () s') (hf:X.fn x=true\/X.env.scope.names.lookup x=some .local:=by first|exact .inl rfl|exact .inr rfl|assumption):Z6r:=by
 obtain⟨m,hn,hl⟩:=ZLN
 have hcls:(X.env.scope.kind == .class || (X.env.scope.kind == .module && X.env.locals != X.env.globals))=false:=by rw[I.ok.kind];rfl
 have hiσ:i<σ.length:=by rw[I.len];exact(ZM0).1
 have cne:=I.cne
 have tracked:∀ {a:Addr} {h':Heap},(∃ o,s.heap.get? a=some o/\H a=none)->Heap.SameBut a s.heap h'->HOk X.prog X.w H h':=λ{a h'} ha hs b ob e=>by
  obtain⟨_,_,hfree⟩:=ha
  refine(I.hok b ob e).lI (λ c w' hc q=>(hs.2 c ?_).trans q) ZFp λ _ _ q=>q
  rintro rfl
  rcases hc with rfl|hc
  ·rw[hfree] at e;cases e
  ·rw[hfree] at hc;cases hc
 rcases hx with hk|hk
 ·refine wpAny_storeName_local hk hn (λ h' hn' hs=>?_) hcls
  obtain⟨oL,_,_,hoL,_⟩:=id hn
  refine h _ ⟨I.ok,I.os,I.bare,Z0m,⟨_,hn',λ j y v' e1 e2 e3=>?_⟩,λ y c e=>?_,I.free,I.freeC,λ p hp=>?_,tracked ⟨oL,hoL,I.free⟩ hs,by simpa using I.len⟩ ⟨_,hs,.inl rfl⟩
  ·exact(Z3o).trans ZAt
  ·obtain⟨sl,e1⟩:=ZBW
   exact⟨sl,ZKw⟩
  ·obtain⟨o',e1⟩:=ZEC
   exact⟨o',ZKw⟩
  ·by_cases hj:j=i
   ·subst hj
    rw[hi] at e1;cases e1
    rw[F8 hiσ] at e2
    cases e2
    exact⟨u,r,.inl ⟨hk,Ze⟩⟩
   ·rw[ZJ9] at e2
    obtain⟨u',r',q⟩:=ZGL
    refine ZJv
    rcases q with ⟨k,e⟩|⟨k,c,e,z⟩
    ·refine .inl ⟨k,?_⟩
     have:y≠x:=λ e=>hj (nU hN e1 (e ▸ hi))
     simp[this,e]
    ·exact .inr ⟨k,c,e,ZBr⟩
  ·obtain⟨w',z⟩:=I.cell y c e
   exact⟨w',ZBr⟩
  ·obtain⟨e,n,ne,nf,d⟩:=ZHC
   exact⟨(hs.2 p.1 ne).trans e,n,ne,nf,d⟩
 ·have hfn:X.fn x=true:=by
   rcases hf with z|z
   ·exact z
   ·rw[z] at hk;cases hk
  obtain⟨c,hc⟩:=I.ok.has x (.inl hk)
  obtain⟨w',z⟩:=ZLq
  refine wpAny_storeName_cell I.ok.kind hk hc z (λ h' hc' hs=>?_)
  obtain⟨oc,hoc,hocd⟩:=id z
  refine h { s with heap:=h' } ⟨I.ok,I.os,I.bare,Z0m,⟨m,hn.sameBut hs (Ne.symm (cne x c hc)),λ j y v' e1 e2 e3=>?_⟩,λ y c' e=>?_,I.free,I.freeC,λ p hp=>?_,tracked ⟨oc,hoc,(ZK_).elim id λ z=>absurd (hfn.symm.trans z.1) Z4⟩ hs,by simpa using I.len⟩ ⟨c,hs,.inr hc⟩
  ·exact(Z1s).trans ZAt
  ·obtain⟨sl,e1⟩:=ZBW
   exact⟨sl,ZKx⟩
  ·obtain⟨o',e1⟩:=ZEC
   exact⟨o',ZKx⟩
  ·by_cases hj:j=i
   ·subst hj
    rw[hi] at e1;cases e1
    rw[F8 hiσ] at e2
    cases e2
    exact⟨u,r,.inr ⟨.inl hk,c,hc,hc'⟩⟩
   ·rw[ZJ9] at e2
    obtain⟨u',r',q⟩:=ZGL
    refine ZJv
    rcases q with q|⟨k,c',e,z'⟩
    ·exact ZJT
    ·refine .inr ⟨k,c',e,z'.sameBut hs ?_⟩
     rintro rfl
     exact hj (nU hN e1 (I.ok.inj _ _ _ e hc ▸ hi))
  ·by_cases hcc:c'=c
   ·subst hcc;exact⟨_,hc'⟩
   ·obtain⟨w2,z2⟩:=I.cell y c' e
    exact⟨w2,z2.sameBut hs hcc⟩
  ·obtain⟨e,n,ne,nf,d⟩:=ZHC
   refine⟨(hs.2 p.1 ?_).trans e,n,ne,nf,d⟩
   intro q
   rw[q,hoc] at e
   have q':oc=p.2:=Z8e
   exact d w' (by rw[<- q'];exact hocd)
theorem kZ (I:Z7) (d:X.N.Nodup) (hi:X.N[i]? = some x) (g:Z5L) (r:Z9j)
  (h:∀ b,Inv X pins ZBb H b->Q () b) (f:X.fn x=true\/X.env.scope.names.lookup x=some .local:=by first|exact .inl rfl|exact .inr rfl|assumption):Z6r:=
 lW I d hi g r (λ b c _=>h b c) f
theorem Inv.D8 (I:Z7) (i:s'.os=s.os) (u:Un ZMZ ch H H' s.heap s'.heap) (f:HOk X.prog X.w H' s'.heap) (g:ZJL)
  (d:∀ b∈ch,(b∈X.ex\/X.s₀.heap.objs.size<=b)/\b≠X.env.locals/\(∀ x c,X.env.cells.lookup x=some c->c≠b)/\∀ p∈X.pn++pins,p.1≠b):Inv X pins σ H' s':=by
 obtain⟨h',g',d',t',o'⟩:=s'
 have e:o'=s.os:=i
 subst e
 exact I.call (g':=g') (t':=t') (d':=d') u f g d
end
noncomputable abbrev XK:=Value->Option Addr->Hp->Prop
noncomputable abbrev St:=List ZCn
noncomputable abbrev VK:=V->Hp->Prop
noncomputable abbrev TE:=St->Hp->VK->Prop
noncomputable abbrev TT:=St->Hp->(Bool->Hp->Prop)->Prop
noncomputable abbrev TA:=St->Hp->(List V->Hp->Prop)->Prop
structure Ends where
 nx:St->Hp->Prop
 rt:VK
 bk:St->Hp->Prop:=λ _ _=>False
 ct:St->Hp->Prop:=λ _ _=>False
noncomputable abbrev TS:=Ends->St->Hp->Prop
inductive EP (X:Cx) (pins:List (Addr×Obj)) (σ:St) (Q:VK) (u:Value) (s':Shared):Prop
 | mk:∀ v H',Inv X pins σ H' s'->RelV v u->Q v H'->EP X pins σ Q u s'
inductive TP (X:Cx) (pins:List (Addr×Obj)) (σ:St) (Q:Bool->Hp->Prop) (b:Bool) (s':Shared):Prop
 | mk:∀ H',Inv X pins σ H' s'->Q b H'->TP X pins σ Q b s'
inductive AP (X:Cx) (pins:List (Addr×Obj)) (σ:St) (Q:List V->Hp->Prop) (us:List Value) (s':Shared):Prop
 | mk:∀ vs H',Inv X pins σ H' s'->Vals vs us->Q vs H'->AP X pins σ Q us s'
def SP (X:Cx) (pins:List (Addr×Obj)) (D:Ends) (f:Flow) (s':Shared):Prop:=
 match f with
 | .next=>∃ σ' H',Inv X pins σ' H' s'/\D.nx σ' H'
 | .brk=>∃ σ' H',Inv X pins σ' H' s'/\D.bk σ' H'
 | .cont=>∃ σ' H',Inv X pins σ' H' s'/\D.ct σ' H'
 | .ret u=>∃ v σ' H',Inv X pins σ' H' s'/\RelV v u/\D.rt v H'
def PE (X:Cx) (e:Expr) (t:TE):Prop:=
 ∀ (pins:List (Addr×Obj)) (s:Shared) (σ:St) (H:Hp) (Q:VK),Inv X pins σ H s->t σ H Q->wpAny Z3 X.A Z0Q Z09 X.xe s
def PT (X:Cx) (e:Expr) (t:TT):Prop:=
 ∀ (pins:List (Addr×Obj)) (s:Shared) (σ:St) (H:Hp) (Q:Bool->Hp->Prop),Inv X pins σ H s->t σ H Q->wpAny Z3 X.A (isTrue e X.env Z0Q) Z9b X.xe s
def PW (X:Cx) (e:Expr) (t:TT):Prop:=
 ∀ (whole:Sem Value) (pins:List (Addr×Obj)) (s:Shared) (σ:St) (H:Hp) (Q:Bool->Hp->Prop),Inv X pins σ H s->t σ H Q->wpAny Z3 X.A (isTrue e X.env whole) Z9b X.xe s
theorem PW.pt (h:PW X e t):PT X e t:=h _
def PA (X:Cx) (es:Z3D) (t:TA):Prop:=
 ∀ (pos:Pos) (pins:List (Addr×Obj)) (s:Shared) (σ:St) (H:Hp) (Q:List V->Hp->Prop),Inv X pins σ H s->t σ H Q->wpAny Z3 X.A (spliced Z07) ZI6 X.xe s
def PS (X:Cx) (st:Stmt) (t:TS):Prop:=
 ∀ (pins:List (Addr×Obj)) (s:Shared) (σ:St) (H:Hp) (D:Ends),Inv X pins σ H s->t D σ H->wpAny Z3 X.A (exec st X.env) ZMb X.xe s
def PSs (X:Cx) (st:Z3r) (t:TS):Prop:=
 ∀ (pins:List (Addr×Obj)) (s:Shared) (σ:St) (H:Hp) (D:Ends),Inv X pins σ H s->t D σ H->wpAny Z3 X.A (execs st X.env) ZMb X.xe s
theorem thn (h:wpAny M A t Q E s) (b:∀ a s,Q a s->Q' a s):wpAny M A t Q' E s:=GL h b λ _ _ x=>x
section
variable {X:Cx}
inductive dZ (i:Nat) (σ:St) (H:Hp) (Q:VK):Prop
 | mk:∀ v,σ[i]? = some Z3h->Q v H->dZ i σ H Q
def tC (v:V):TE:=λ _ H Q=>Q v H
theorem uz (n:X.N[i]? = some x) (y:ZH3) (j:(x == ("__debug__" :ZBp))=false:=by decide) (g:(x == ("__classdict__" :ZBp))=false:=by decide):ZJ1:=by
 intro pins s σ H Q I h
 obtain⟨v,e,h⟩:=h
 obtain⟨m,t,p⟩:=I.loc
 obtain⟨u,r,l⟩:=p i x v n e y
 have d:EP X pins σ Q u s:=Z9s
 rcases l with ⟨f,q⟩|⟨f,c,k,b⟩
 ·exact wpAny_Name (wpAny_loadName_local I.ok.kind f t q d) j
 ·rcases f with f|f
  ·exact wpAny_Name (wpAny_loadName_cell I.ok.kind f k b d) j
  ·exact wpAny_Name (wpAny_loadName_free I.ok.kind f k b d g) j
theorem cJ {i j pos}:PE X (.Constant Z08 j pos) ZMR:=λ _ _ _ H _ I h=>wpAny_Constant_int ⟨Z08,H,Z1u,Z18,h⟩
theorem fL {b j pos}:PE X (.Constant ZAz j pos) (tC Z5t):=λ _ _ _ H _ I h=>Constant_bool ⟨.bl b,H,I,rfl,h⟩
theorem iU {j pos}:PE X (.Constant .none j pos) (tC .non):=λ _ _ _ H _ I h=>Constant_none ⟨.non,H,I,rfl,h⟩
theorem gY {x j pos}:PE X (.Constant Z6o j pos) (tC Z6o):=λ _ _ _ H _ I h=>Calls.Constant_str ⟨.str x,H,Z1u,Z18,h⟩
def Gl (X:Cx) (x:Str):Prop:=X.env.kindOf x=some .globalImplicit
theorem j4 (I:Z7) (c:Z99) (d:X.mg x=some u) (h:Q u s)
  (b:(x == ("__debug__" :ZBp))=false:=by decide):Z7Q:=
 Calls.Name_function_global I.ok.kind c (Calls.loadGlobal_global (by rw[I.ok.glob];exact Z3t) d h) b
theorem gJ (I:Z7) (c:Z99) (d:X.mg x=none) (g:bootBuiltins x=some u) (h:Q u s)
  (f:x ≠ "__name__":=by decide) (b:(x == ("__debug__" :ZBp))=false:=by decide):Z7Q:=by
 obtain⟨i,h1,h2⟩:=I.mod.blt
 exact Calls.Name_function_global I.ok.kind c (Calls.loadGlobal_builtin (by rw[I.ok.glob];exact Z3t) d (by rw[I.ok.blt];exact h1.keeps I.bk) ((h2 x f).trans g) h) b
theorem w5 (c:Z99) (d:X.mg x=some u) (r:Z9j) (b:(x == ("__debug__" :ZBp))=false:=by decide):ZJ0:=
 λ _ _ _ H _ I h=>j4 I c d Z9s b
theorem j7 (c:Z99) (d:X.mg x=none) (g:bootBuiltins x=some u) (r:Z9j) (f:x ≠ "__name__":=by decide) (b:(x == ("__debug__" :ZBp))=false:=by decide):ZJ0:=
 λ _ _ _ H _ I h=>gJ I c d g Z9s f b
variable {a b:Expr}{ta tb:TE}{pos:Pos}
def PC (X:Cx) (op:CmpOp) (a b:Expr) (t:TE):Prop:=
 ∀ (pins:List (Addr×Obj)) (s:Shared) (σ:St) (H:Hp) (Q:VK),Inv X pins σ H s->t σ H Q ->
  wpAny Z3 X.A Z3p (λ v s₁=>wpAny Z3 X.A Z4q (λ u s₂=>wpAny Z3 X.A (compareOp op v u) Z09 X.xe s₂) X.xe s₁) X.xe s
theorem Dv (b:Expr) (h:op≠.In) (h2:op≠.NotIn):behindInMarks op b=false:=by
 have c:(op == CmpOp.In)=false:=by cases op<;>first|rfl|exact ZDx
 have d:(op == CmpOp.NotIn)=false:=by cases op<;>first|rfl|exact ZLb
 cases b<;>simp[behindInMarks,c,d]
inductive tBE (Q:Bool->Hp->Prop) (x:V) (H1:Hp):Prop
 | mk:∀ c,x=.bl c->Q c H1->tBE Q x H1
def tB (t:TE):TT:=λ σ H Q=>t σ H λ x H1=>tBE Q x H1
theorem nB (h:PC X op a b t) (h1:behindInMarks op b=false:=by first|exact f _ Z4 (Z4)|rfl):PT X Z59 (tB t):=by
 intro pins s σ H Q I i
 refine wpAny_isTrue_Compare1 (thn (h pins s σ H _ I i) λ v l h1=>thn h1 λ u m h2=>thn h2 λ c n z=>?_) h1
 obtain⟨x,H1,g,k,j⟩:=z
 obtain⟨d,rfl,q⟩:=j
 cases k
 exact Hh ⟨H1,g,q⟩
theorem dN {e:Expr}{t:TE}(h:ZLl) (he:∀ whole,isTrue e X.env whole=(do let v <- whole;standAt e.pos;holding [v] ZCJ):=by intro _;rfl):PT X e (tB t):=by
 intro pins s σ H Q I hw
 refine isTrue_plain (thn (h pins s σ H _ I hw) λ v s1 z=>?_) (he _)
 obtain⟨x,H1,I1,r1,q1⟩:=z
 obtain⟨d,rfl,q⟩:=q1
 cases r1
 exact Hh ⟨H1,I1,q⟩
variable {tA tB':TT}{rest:List Expr}
def Fd (t u:TT):TT:=λ σ H Q=>t σ H λ c H1=>if c=true then u σ H1 Q else Q false H1
def tOr (t u:TT):TT:=λ σ H Q=>t σ H λ c H1=>if c=true then Q true H1 else u σ H1 Q
def Ep (t:TT):TT:=λ σ H Q=>t σ H λ c H1=>Q (!c) H1
theorem iw (d:ZAG):PW X (.BoolOp .And [a] pos) tA:=by
 intro g pins s σ H Q I h
 refine isTrue_and Z6D
 cases c with
 | true=>exact isTrue_and_nil e
 | false=>exact e
theorem gS (d:ZAG):PW X (.BoolOp .Or [a] pos) tA:=by
 intro g pins s σ H Q I h
 refine isTrue_or Z6D
 cases c with
 | false=>exact isTrue_or_nil e
 | true=>exact e
theorem jw (g:ZAG) (i:PW X (.BoolOp .And (b::rest) pos) tB'):PW X (.BoolOp .And (a::b::rest) pos) (Fd tA tB'):=by
 intro k pins s σ H Q I h
 refine isTrue_and ZDb
 obtain⟨H1,d,f⟩:=z
 cases c with
 | true=>exact ZDT
 | false=>exact⟨H1,d,f⟩
theorem hZ (g:ZAG) (i:PW X (.BoolOp .Or (b::rest) pos) tB'):PW X (.BoolOp .Or (a::b::rest) pos) (tOr tA tB'):=by
 intro k pins s σ H Q I h
 refine isTrue_or ZDb
 obtain⟨H1,d,f⟩:=z
 cases c with
 | true=>exact⟨H1,d,f⟩
 | false=>exact ZDT
theorem eE (f:ZAG):PT X ZEl (Ep tA):=by
 intro pins s σ H Q I h
 exact isTrue_not (thn (f pins s σ H (λ c H1=>Q (!c) H1) I h) λ c g ⟨H1,d,q⟩=>⟨H1,d,q⟩)
inductive uT (tb:TE) (σ:St) (Q:VK) (x:V) (H1:Hp):Prop
 | mk:∀ c,x=.bl c->(if c=true then tb σ H1 Q else Q (.bl false) H1)->uT tb σ Q x H1
def Dd (ta tb:TE):TE:=λ σ H Q=>ta σ H λ x H1=>uT tb σ Q x H1
inductive zf (tb:TE) (σ:St) (Q:VK) (x:V) (H1:Hp):Prop
 | mk:∀ c,x=.bl c->(if c=true then Q Z2N H1 else tb σ H1 Q)->zf tb σ Q x H1
def Fq (ta tb:TE):TE:=λ σ H Q=>ta σ H λ x H1=>zf tb σ Q x H1
inductive vw (Q:VK) (x:V) (H1:Hp):Prop
 | mk:∀ c,x=.bl c->Q (.bl (!c)) H1->vw Q x H1
def D2 (ta:TE):TE:=λ σ H Q=>ta σ H λ x H1=>vw Q x H1
theorem jx {op}(h:PE X a t):PE X (.BoolOp op [a] pos) t:=λ pins s σ H Q I c=>BoolOp_one (h pins s σ H Q I c)
theorem kT (g:Z3B) (i:PE X (.BoolOp .And (b::rest) pos) tb):PE X (.BoolOp .And (a::b::rest) pos) (Dd ta tb):=by
 intro pins s σ H Q I h
 refine BoolOp_and ZDa
 obtain⟨x,H1,f,j,d⟩:=z
 obtain⟨c,rfl,d⟩:=d
 cases j
 refine Hh ?_
 cases c with
 | true=>exact ZEr
 | false=>exact⟨.bl false,H1,f,rfl,d⟩
theorem Dt (g:Z3B) (i:PE X (.BoolOp .Or (b::rest) pos) tb):PE X (.BoolOp .Or (a::b::rest) pos) (Fq ta tb):=by
 intro pins s σ H Q I h
 refine BoolOp_or ZDa
 obtain⟨x,H1,f,j,d⟩:=z
 obtain⟨c,rfl,d⟩:=d
 cases j
 refine Hh ?_
 cases c with
 | false=>exact ZEr
 | true=>exact⟨.bl true,H1,f,rfl,d⟩
theorem qp (g:Z3B):PE X ZEl (D2 ta):=by
 intro pins s σ H Q I h
 refine UnaryOp_ (thn Z1P λ v j z=>?_)
 obtain⟨x,H1,f,i,d⟩:=z
 obtain⟨c,rfl,d⟩:=d
 cases i
 exact not_of (Hh ⟨.bl (!c),H1,f,rfl,d⟩)
end
def SqL (K:PySem.W.Frag) (H:Hp) (a:Addr) (xs:Z04):Prop:=
 Rd H a ZQ \/
  ∃ (o:Obj) (its:Array Value) (n:Nat),K.lookup a=some o/\o.cls=.type "list" /\ o.dict=none/\o.data=.seq its n/\its.size<=sizeLine/\Vals xs its.toList
def SqT (K:PySem.W.Frag) (H:Hp) (a:Addr) (xs:Z04):Prop:=
 Rd H a ZU \/
  ∃ (o:Obj) (its:Array Value) (n:Nat),K.lookup a=some o/\o.cls=.type "tuple" /\ o.data=.seq its n/\its.size<=sizeLine/\Vals xs its.toList
noncomputable def FF:Value->Option V
 | .none=>some .non
 | .bool b=>ZCa
 | .int i _=>Z6d
 | .str x _=>some Z6o
 | .bytes b _=>some (.byt b)
 | .float b _=>some (.flt b)
 | .ref a=>Z4y
 | .type n=>some (.ty n)
 | _=>none
theorem RelV.abs {x:V}{u:Value}(r:ZGU):FF u=some x:=by
 cases x with
 | non=>cases r;rfl
 | bl _=>cases r;rfl
 | int _=>obtain⟨t,rfl⟩:=r;rfl
 | str _=>obtain⟨t,rfl⟩:=r;rfl
 | byt _=>obtain⟨t,rfl⟩:=r;rfl
 | flt _=>obtain⟨t,rfl⟩:=r;rfl
 | ref _=>cases r;rfl
 | ty _=>cases r;rfl
theorem RelV.inj (r:ZGU) (q:Z3c):x=y:=Option.some.inj (r.abs.symm.trans q.abs)
theorem Vals.inj:∀ {xs ys:List V}{us:List Value},Vals xs us->Vals ys us->xs=ys
 | _,_,_,.nil,.nil=>rfl
 | _,_,_,.cons r t,.cons c d=>by rw[r.inj c,Vals.inj t d]
section
variable {X:Cx}{pins:List (Addr×Obj)}{σ:St}{H:Hp}{s:Shared}{a:Addr}{xs ys:List V}
theorem SqL.of {K:PySem.W.Frag}(h:H a=some ZQ):Z94:=ZGZ
theorem SqT.of {K:PySem.W.Frag}(h:H a=some ZU):ZE1:=ZGZ
theorem Inv.list (I:Z7) (h:ZKW):∃ its:List Value,Vals xs its/\PlainL s.heap a its.toArray/\xs.length<=sizeLine:=by
 rcases h with h|⟨o,its,n,f,c,d,g,i,r⟩
 ·obtain⟨z,its,n,r,e⟩:=h.ok I.hok
  exact⟨its,r,⟨_,n,e,rfl,rfl,rfl⟩,z⟩
 ·refine⟨its.toList,r,⟨o,n,I.kIn a o f,c,d,by simpa using g⟩,?_⟩
  have e:=r.length
  simp only[F3] at e
  lia
theorem Inv.tuple (I:Z7) (h:ZKU):∃ its:List Value,Vals xs its/\IsTup s.heap a its.toArray/\xs.length<=sizeLine:=by
 rcases h with h|⟨o,its,n,d,c,f,g,r⟩
 ·obtain⟨z,its,r,p⟩:=h.ok I.hok
  exact⟨its,r,p,z⟩
 ·refine⟨its.toList,r,⟨o,I.kIn a o d,c,n,by simpa using f⟩,?_⟩
  have e:=r.length
  simp only[F3] at e
  lia
theorem Inv.ia (I:Z7) (h:ZKW) (h':SqL X.K H a ys):xs=ys:=by
 obtain⟨f,r,⟨o,n,e,_,_,d⟩,_⟩:=I.list h
 obtain⟨c,k,⟨o',l,i,_,_,g⟩,_⟩:=I.list h'
 rw[e] at i;cases i
 rw[d] at g
 injection g with j _
 have:f=c:=by simpa using congrArg Array.toList j
 subst this
 exact r.inj k
theorem Inv.tS (I:Z7) (h:ZKU) (h':SqT X.K H a ys):xs=ys:=by
 obtain⟨f,r,⟨o,e,_,n,d⟩,_⟩:=I.tuple h
 obtain⟨c,k,⟨o',i,_,l,g⟩,_⟩:=I.tuple h'
 rw[e] at i;cases i
 rw[d] at g
 injection g with j _
 have:f=c:=by simpa using congrArg Array.toList j
 subst this
 exact r.inj k
end
noncomputable abbrev Cx.lA (X:Cx) (E:Value->Shared->Prop):Cx:={ X with xe:=E }
noncomputable abbrev Cx.nox (X:Cx):Cx:=X.lA λ _ _=>False
theorem Cx.Ok.lA {X:Cx}(c:X.Ok) (E:Value->Shared->Prop):(X.lA E).Ok:=
 ⟨c.mod,c.kind,c.glob,c.blt,c.above,c.inj,c.has,c.cab,c.hd,c.frames,c.stk,c.exf,c.bs,c.bsz,c.noex,c.exfs,c.jH,c.frf⟩
theorem Cx.Ok.ig {X:Cx}{E:Value->Shared->Prop}(c:(X.lA E).Ok):X.Ok:=
 ⟨c.mod,c.kind,c.glob,c.blt,c.above,c.inj,c.has,c.cab,c.hd,c.frames,c.stk,c.exf,c.bs,c.bsz,c.noex,c.exfs,c.jH,c.frf⟩
section
variable {X:Cx}{pins:List (Addr×Obj)}{σ:St}{H:Hp}{s:Shared}{E:Value->Shared->Prop}
theorem Inv.lA (I:Z7) (E:Value->Shared->Prop):ZC9:=⟨I.ok.lA E,I.os,I.bare,I.base,I.loc,I.cell,I.free,I.freeC,I.pin,I.hok,I.len⟩
theorem Inv.ig (I:ZC9):Z7:=⟨I.ok.ig,I.os,I.bare,I.base,I.loc,I.cell,I.free,I.freeC,I.pin,I.hok,I.len⟩
theorem SP.ig (h:SP (X.lA E) pins D f s'):SP X pins D f s':=by
 cases f with
 | next=>obtain⟨c,H',I,q⟩:=h;exact Z8U
 | brk=>obtain⟨c,H',I,q⟩:=h;exact Z8U
 | cont=>obtain⟨c,H',I,q⟩:=h;exact Z8U
 | ret u=>obtain⟨v,c,H',I,r,q⟩:=h;exact⟨v,c,H',I.ig,r,q⟩
theorem PSs.nox {st:Z3r}{t:TS}(h:PSs X.nox st t):PSs X st t:=λ pins s σ H D I c=>
 GL (h pins s σ H D (I.lA _) c) (λ _ _ q=>q.ig) λ _ _ z=>False.elim z
end
section
variable {X:Cx}{st:Stmt}{rest:List Stmt}{t u:TS}{e:Expr}{te:TE}{pos:Pos}
def vJ:TS:=λ D σ H=>D.nx σ H
def sM (t u:TS):TS:=λ D σ H=>t { D with nx:=u D } σ H
theorem da:PSs X [] vJ:=λ _ _ σ H _ I h=>JF ZJu
theorem cD (h1:ZIx) (h2:PSs X rest u):PSs X (st::rest) (sM t u):=by
 intro pins s σ H D I h
 refine IZ (thn (h1 pins s σ H { D with nx:=u D } I h) λ f s1 q=>?_)
 cases f with
 | next=>
  obtain⟨σ',H',I',q⟩:=q
  exact h2 pins s1 σ' H' D I' q
 | ret v=>exact q
 | brk=>exact q
 | cont=>exact q
theorem cE (h1:ZIx):PSs X [st] t:=by
 intro pins s σ H D I h
 refine IZ (thn (h1 pins s σ H D I h) λ f c q=>?_)
 cases f with
 | next=>exact JF q
 | ret v=>exact q
 | brk=>exact q
 | cont=>exact q
theorem Inv.quiet (I:Z7):interactive X.env=false:=by simp[interactive,I.ok.kind]
def AJ (te:TE):TS:=λ D σ H=>te σ H λ _ H1=>D.nx σ H1
theorem cR (d:Z4M) (hs:swapsWith e none pos.line X.env=pure false:=by rfl):PS X (.Expr e pos) (AJ te):=by
 intro pins s σ H D I h
 exact wpAny_Expr_any (thn Z6_ λ v i ⟨x,H1,c,g,f⟩=>⟨σ,H1,c,f⟩) I.quiet hs
def uI (te:TE):TS:=λ D σ H=>te σ H D.rt
theorem cQ (d:Z4M):PS X (.Return (some e) pos) (uI te):=by
 intro pins s σ H D I h
 exact wpAny_Return_some (thn Z6_ λ v i ⟨x,H1,c,g,f⟩=>⟨x,σ,H1,c,g,f⟩)
def yu:TS:=λ D _ H=>D.rt .non H
theorem rO:PS X (.Return none pos) yu:=λ _ _ σ H _ I h=>wpAny_Return_none ⟨.non,σ,H,I,rfl,h⟩
def wH (c:TT) (t u:TS):TS:=λ D σ H=>c σ H λ b H1=>if b=true then t D σ H1 else u D σ H1
theorem dy (l:PT X c tc) (j:PSs X a t) (k:PSs X b u):PS X (.If c a b pos) (wH tc t u):=by
 intro pins s σ H D I h
 refine wpAny_If (thn ZEV λ d i z=>?_)
 obtain⟨H1,f,g⟩:=z
 cases d with
 | true=>exact j pins i σ H1 D f g
 | false=>exact k pins i σ H1 D f g
def Au:TS:=λ _ _ _=>False
theorem fX:PS X st Au:=λ _ _ _ _ _ _ h=>h.elim
end
noncomputable abbrev TG:=V->St->Hp->(St->Hp->Prop)->Prop
noncomputable abbrev TGs:=List V->St->Hp->(St->Hp->Prop)->Prop
def PG (X:Cx) (target:Expr) (t:TG):Prop:=
 ∀ (pins:List (Addr×Obj)) (s:Shared) (σ:St) (H:Hp) (v:V) (u:Value) (Q:St->Hp->Prop),Inv X pins σ H s->RelV v u->t v σ H Q ->
  wpAny Z3 X.A (assign target X.env u) (λ _ s'=>∃ σ' H',Inv X pins σ' H' s'/\Q σ' H') X.xe s
def PGs (X:Cx) (ts:Z3D) (t:TGs):Prop:=
 ∀ (pins:List (Addr×Obj)) (s:Shared) (σ:St) (H:Hp) (vs:List V) (us:List Value) (Q:St->Hp->Prop),Inv X pins σ H s->Vals vs us->t vs σ H Q ->
  wpAny Z3 X.A (assignInOrder ((assignEach ts X.env).map (·.2)) us) (λ _ s'=>∃ σ' H',Inv X pins σ' H' s'/\Q σ' H') X.xe s
noncomputable abbrev zu:=V->V->V->Hp->(Hp->Prop)->Prop
def AQ (X:Cx) (t:zu):Prop:=
 ∀ (pins:List (Addr×Obj)) (s:Shared) (σ:St) (H:Hp) (o i v:V) (ov iv u:Value) (Q:Hp->Prop),Inv X pins σ H s->RelV o ov->RelV i iv->RelV v u->t o i v H Q ->
  wpAny Z3 X.A (setItem ov iv u) (λ _ s'=>∃ H',Inv X pins σ H' s'/\Q H') X.xe s
section
variable {X:Cx}{pos:Pos}
def eh (i:Nat):TG:=λ v σ H Q=>Q ZBb H
theorem cN (d:X.N.Nodup) (hi:X.N[i]? = some x) (g:Z5L) (f:X.fn x=true\/X.env.scope.names.lookup x=some .local:=by first|exact .inl rfl|exact .inr rfl|assumption):PG X Z2O (eh i):=by
 intro pins s σ H v u Q I r h
 exact wpAny_assign_Name (kZ I d hi g r (λ j c=>⟨_,H,c,h⟩) f)
def Fy:TGs:=λ vs σ H Q=>vs=[]/\Q σ H
inductive yt (t:TG) (u:TGs) (vs:List V) (σ:St) (H:Hp) (Q:St->Hp->Prop):Prop
 | mk:∀ v r,vs=v::r->(t v σ H λ σ' H'=>u r σ' H' Q)->yt t u vs σ H Q
theorem eM:PGs X [] Fy:=by
 intro pins s σ H d c Q I r h
 obtain⟨e,h⟩:=h
 subst e
 cases r
 exact assignInOrder_nil ZJu
theorem dh (h1:PG X e t) (h2:PGs X es u)
  (hs:(assignEach (e::es) X.env).map (·.2)=assign e X.env::(Z2c).map (·.2):=by rfl):PGs X (e::es) (yt t u):=by
 intro pins s σ H m k Q I r h
 obtain⟨v,l,f,h⟩:=h
 subst f
 cases r with
 | cons r i=>
  rw[hs]
  refine assignInOrder_cons (thn (h1 pins s σ H _ _ _ I r h) λ _ j z=>?_)
  obtain⟨c,H1,d,g⟩:=z
  exact h2 pins j c H1 _ _ Q d i g
inductive z0 (K:PySem.W.Frag) (n:Nat) (t:TGs) (v:V) (σ:St) (H:Hp) (Q:St->Hp->Prop):Prop
 | mk:∀ a xs,v=.ref a->SqT K H a xs->xs.length=n->t xs σ H Q->z0 K n t v σ H Q
theorem Aa (j:X.calm=true) (h:PGs X es t)
  (m:(Z2c).length=n:=by rfl) (c:(Z2c).findIdx? (·.1)=none:=by rfl):PG X ZHa (z0 X.K n t):=by
 intro pins s σ H v u Q I r d
 obtain⟨a,xs,i,p,l,d⟩:=d
 subst i
 cases r
 obtain⟨z,f,q,A⟩:=I.tuple p
 refine assign_Tuple_tuple (I.ok.hd j) q (by simp[m,<- l,f.length]) c λ h' y=>?_
 have g:Inv X pins σ H { s with heap:=h' }:=I.kept (t':=s.toks) λ b o e=>y b o Z8x e
 exact h pins _ σ H xs _ Q g (by simpa using f) d
def Fw (to ti:TE) (t:zu):TG:=λ v σ H Q=>to σ H λ o H1=>ti σ H1 λ i H2=>t o i v H2 λ H3=>Q σ H3
theorem vD {o i:Expr}{to ti:TE}{t:zu}(ho:ZAI) (hi:PE X i ti) (hs:AQ X t)
  (ha:∀ v,assign Z71 X.env v=(do
   let ov <- holding [v] Z3i
   let iv <- holding [v,ov] (eval i X.env)
   standAt pos
   holding [v,ov,iv] (setItem ov iv v)
   release [v,ov,iv] []):=by intro _;rfl):PG X Z71 (Fw to ti t):=by
 intro pins s σ H v u Q I r h
 rw[ha]
 refine FI (Gp (thn (ho pins s σ H _ I h) λ ov s1 z=>?_))
 obtain⟨x,H1,I1,r1,q1⟩:=z
 refine FI (Gp (thn (hi pins s1 σ H1 _ I1 q1) λ iv s2 z=>?_))
 obtain⟨y,H2,I2,r2,q2⟩:=z
 refine FI (IA (FI (Gp (thn (hs pins s2 σ H2 x y v ov iv u _ I2 r1 r2 r q2) λ _ s3 z=>?_))))
 obtain⟨H3,I3,q3⟩:=z
 exact wpAny_release ⟨σ,H3,I3,q3⟩
def zt (te:TE) (g:TG):TS:=λ D σ H=>te σ H λ x H1=>g x σ H1 D.nx
theorem vk (d:Z4M) (f:PG X tg g) (hs:swapsWithSole [tg] e pos.line X.env=pure false:=by rfl) (i:swappedStores [tg] e X.env=pure none:=by rfl)
  (h1:(assignEach [tg] X.env).map (·.2)=[assign tg X.env]:=by rfl):PS X (.Assign [tg] e pos) (zt te g):=by
 intro pins s σ H D I h
 refine wpAny_Assign_stores (thn Z6_ λ v l z=>?_) hs i
 obtain⟨x,H1,c,k,j⟩:=z
 rw[h1]
 exact thn (f pins l σ H1 x v _ c k j) λ _ m q=>q
theorem cV (f:X.N.Nodup) (hi:X.N[i]? = some x) (k:Z5L) (g:Z4M) (hs:swapsWith e (some (.Name x pos')) pos.line X.env=pure false:=by rfl) (j:X.fn x=true\/X.env.scope.names.lookup x=some .local:=by first|exact .inl rfl|exact .inr rfl|assumption) :
  PS X (.Assign [.Name x pos'] e pos) (zt te (eh i)):=by
 intro pins s σ H D I h
 refine wpAny_Assign_Name (thn Z1P λ v n z=>?_) hs
 obtain⟨y,H1,c,m,l⟩:=z
 exact kZ c f hi k m (λ p d=>⟨_,H1,d,l⟩) j
end
section
variable {X:Cx}{pos:Pos}
def Aq (c:TT) (tb:TS):TS:=λ D σ H=>∃ W:Nat->St->Hp->Prop,(∃ m,W m σ H)/\∀ m σ H,W m σ H ->
 c σ H λ b H1=>if b=true then ∃ N:St->Hp->Prop,(∀ σ' H',N σ' H'->∃ m',m'<m/\W m' σ' H')/\tb { D with nx:=N,ct:=N,bk:=ZBZ} σ H1 else D.nx σ H1
theorem oV (C:ZAF) (J:PT X c tc) (G:ZLk):PS X (.While c body [] pos) (Aq tc tb):=by
 intro pins s σ H D I h
 obtain⟨W,⟨K,Q⟩,j⟩:=h
 refine wpAny_While (codeAny_whileLoop (λ n L=>∃ k H',Inv X pins k H' L/\W n k H') ?_ K ⟨σ,H,I,Q⟩)
 rintro n M ⟨g,H1,F,R⟩
 refine Ii C (thn (J pins M g H1 _ F (j n g H1 R)) λ b O z=>?_)
 obtain⟨H2,A,l⟩:=z
 cases b with
 | true=>
  obtain⟨N,B,l⟩:=l
  rw[Z1X]
  refine Ii C (thn (G pins O g H2 _ A l) λ f S m=>?_)
  cases f with
  | next=>
   obtain⟨d,i,p,y⟩:=m
   obtain⟨r,q,z⟩:=B d i y
   exact ZGj
  | cont=>
   obtain⟨d,i,p,y⟩:=m
   obtain⟨r,q,z⟩:=B d i y
   exact ZGj
  | brk=>exact m
  | ret v=>exact m
 | false=>
  rw[FV Gb]
  exact JF ⟨g,H2,A,l⟩
end
structure It where
 go:Nat->Hp->Prop
 yld:Nat->Hp->V->Hp->Prop
 stop:Nat->Hp->Prop
def kA (X:Cx) (pins:List (Addr×Obj)) (H:Hp) (b:Addr):Prop:=
 H b=none/\b≠X.env.locals/\b∉X.fs/\(b∈X.ex\/X.s₀.heap.objs.size<=b)/\(∀ x c,X.env.cells.lookup x=some c->c≠b)/\∀ p∈X.pn++pins,p.1≠b
theorem Inv.mT (I:Z7) (d:s.heap.objs.size<=b) (f:H' b=none):ZBL:=by
 refine⟨f,GV (F9 I.lt d),I.Fv d,.inr (Gd I.sz d),λ x c e z=>?_,λ p g z=>?_⟩
 ·obtain⟨v,q⟩:=Z97
  exact absurd (F9 q.lt (by rw[z];exact d)) Z60
 ·exact absurd (F9 (Heap.lt_size (I.pin p g).1) (by rw[z];exact d)) Z60
structure Turn (P:Program) (w:World) (K:PySem.W.Frag) (tg:Expr) (J:It) (fp:List Addr) (it:Addr) (tn:Nat->Heap->Prop):Prop where
 mem:it∈fp
 obj:∀ i h,tn i h->∀ b∈fp,∃ o,h.get? b=some o/\∀ v,o.data≠.cell v
 keep:∀ i h h',tn i h->(∀ b∈fp,∀ o,h.get? b=some o->h'.get? b=some o)->tn i h'
 item:∀ (X:Cx),X.prog=P->X.w=w->X.K=K->X.calm=true->∀ (i:Nat) (pins:List (Addr×Obj)) (s:Shared) (σ:St) (H:Hp) (E:Value->Shared->Prop),Inv X pins σ H s->(∀ b∈fp,Z33)->tn i s.heap->J.go i H ->
  wpAny ZY X.A Z4u (λ r s1=>∃ u,r=some u /\
   wpAny ZY X.A Z4m (λ _ s2=>∃ x H',Inv X pins σ H' s2/\RelV x u/\J.yld i H x H'/\tn (i+1) s2.heap/\∀ b∈fp,H' b=none) E s1) E s
 done:∀ (X:Cx),X.prog=P->X.w=w->X.K=K->X.calm=true->∀ (i:Nat) (pins:List (Addr×Obj)) (s:Shared) (σ:St) (H:Hp) (E:Value->Shared->Prop),Inv X pins σ H s->(∀ b∈fp,Z33)->tn i s.heap->J.stop i H ->
  wpAny ZY X.A Z4u (λ r s1=>r=none/\Inv X pins σ H s1) E s
 self:∀ (A:Around) (i:Nat) (s:Shared) (Q:Value->Shared->Prop) (E:Value->Shared->Prop),tn i s.heap->Q Z1_ s->wpAny ZY A (pyIter Z1_) Q E s
noncomputable abbrev TI:=St->Hp->(It->Hp->Prop)->Prop
def PIE (X:Cx) (pins:List (Addr×Obj)) (σ:St) (tg:Expr) (R:It->Hp->Prop) (itv:Value) (s2:Shared):Prop:=
 ∃ (it:Addr) (fp:List Addr) (tn:Nat->Heap->Prop) (J:It) (H':Hp),itv=.ref it/\Inv X pins σ H' s2/\Turn X.prog X.w X.K tg J fp it tn/\tn 0 s2.heap/\(∀ b∈fp,ZBL)/\R J H'
def PI (X:Cx) (tg iter:Expr) (wi:TI):Prop:=
 ∀ (pins:List (Addr×Obj)) (s:Shared) (σ:St) (H:Hp) (R:It->Hp->Prop),Inv X pins σ H s->wi σ H R ->
  wpAny Z3 X.A ZHL (λ v s1=>wpAny Z3 X.A (pyIter v) ZF6 X.xe s1) X.xe s
theorem rQ (i:s.heap.get? it=some o) (d:o.cls=.type n) (f:o.data=.fields vs)
    (g:["enumerate","zip","dict_itemiterator","dict_reverseitemiterator","odict_iterator","itertools.zip_longest","itertools.pairwise"].contains n=false) (c:Q () s):wpAny M A Z4m Q E s:=by
  unfold letOwnedTupleGo
  cases tg<;>first
    | exact FN c
    | (cases u<;>first
        | exact FN c
        | (refine FI (wpAny_load i ?_)
           rw[d,f]
           show wpAny M A (if (["enumerate","zip","dict_itemiterator","dict_reverseitemiterator","odict_iterator","itertools.zip_longest","itertools.pairwise"].contains n && vs[0]? == some (rawInt _))=true then _ else _) Q E s
           rw[FV (by intro h;rw[g,Bool.false_and] at h;cases h)]
           exact FN c))
noncomputable def Itl (K:PySem.W.Frag) (a:Addr):It:=
 ⟨λ i H=>∃ xs x,SqL K H a xs/\xs[i]? = some x,λ i H x H'=>H'=H/\∀ xs,SqL K H a xs->xs[i]? = some x,λ i H=>∃ xs,SqL K H a xs/\xs.length<=i⟩
noncomputable def Itt (K:PySem.W.Frag) (a:Addr):It:=
 ⟨λ i H=>∃ xs x,SqT K H a xs/\xs[i]? = some x,λ i H x H'=>H'=H/\∀ xs,SqT K H a xs->xs[i]? = some x,λ i H=>∃ xs,SqT K H a xs/\xs.length<=i⟩
noncomputable def Itr (lo:Int) (n:Nat):It:=⟨λ i _=>i<n,λ i H x H'=>H'=H/\x=.int (lo+i),λ i _=>n<=i⟩
theorem tu {P:Program}{w:World}{K:PySem.W.Frag}{W:Expr}(a g:Addr):Turn P w K W ZAM [g] g (λ i h=>h.IsListIter g a i) where
 mem:=Ze
 obj:=λ i h st b f=>by
  have e:b=g:=by simpa using f
  subst e
  obtain⟨o,e,c,d⟩:=st
  exact⟨o,e,λ v z=>by rw[d] at z;cases z⟩
 keep:=λ i h h' st k=>ZBt
 item:=by
  intro X C F B M i pins s σ H E I l st D
  subst C F B
  obtain⟨xs,x,m,G⟩:=D
  obtain⟨J,L,p,T⟩:=I.list m
  obtain⟨u,R,U⟩:=L.get G
  obtain⟨n,q,Q,r,y,A⟩:=l g Z8
  refine wpAny_pyNext_list_item st p.isList (x:=u) (by simpa using R) λ h' j V=>?_
  have N:Inv X pins σ H { s with heap:=h' }:=I.turned (t':=s.toks) Z8o n q r y A
  obtain⟨o,e,c,d⟩:=id j
  exact⟨u,rfl,rQ (s:={ s with heap:=h' }) e c d Z4 ⟨x,H,N,U,⟨rfl,λ ys S=>by rw[I.ia S m];exact G⟩,j,λ b f=>(l b f).1⟩⟩
 done:=by
  intro X C F B M i pins s σ H E I l st D
  subst C F B
  obtain⟨xs,m,G⟩:=D
  obtain⟨J,L,p,T⟩:=I.list m
  obtain⟨n,q,Q,r,y,A⟩:=l g Z8
  have Y:=L.length
  exact wpAny_pyNext_list_end (I.ok.hd M) st p.isList (by simp;lia) λ h' O=>⟨rfl,I.turned (t':=s.toks) ZD5 n q r y A⟩
 self:=λ _ _ _ _ _ st h=>wpAny_pyIter_listiter st h
theorem qH {P:Program}{w:World}{K:PySem.W.Frag}{W:Expr}(a g:Addr):Turn P w K W ZJm [g] g (λ i h=>h.IsTupleIter g a i) where
 mem:=Ze
 obj:=λ i h st b f=>by
  have e:b=g:=by simpa using f
  subst e
  obtain⟨o,e,c,d⟩:=st
  exact⟨o,e,λ v z=>by rw[d] at z;cases z⟩
 keep:=λ i h h' st k=>ZBt
 item:=by
  intro X D G C M i pins s σ H E I m st F
  subst D G C
  obtain⟨xs,x,n,J⟩:=F
  obtain⟨j,L,p,T⟩:=I.tuple n
  obtain⟨u,R,U⟩:=L.get J
  obtain⟨q,r,Q,y,A,B⟩:=m g Z8
  refine wpAny_pyNext_tuple_item st (show s.heap.IsTuple a j.toArray from p) (x:=u) (by simpa using R) λ h' l V=>?_
  have N:Inv X pins σ H { s with heap:=h' }:=I.turned (t':=s.toks) Z8o q r y A B
  obtain⟨o,e,c,d⟩:=id l
  exact⟨u,rfl,rQ (s:={ s with heap:=h' }) e c d Z4 ⟨x,H,N,U,⟨rfl,λ ys S=>by rw[I.tS S n];exact J⟩,l,λ b f=>(m b f).1⟩⟩
 done:=by
  intro X D G C M i pins s σ H E I m st F
  subst D G C
  obtain⟨xs,n,J⟩:=F
  obtain⟨j,L,p,T⟩:=I.tuple n
  obtain⟨q,r,Q,y,A,B⟩:=m g Z8
  have Y:=L.length
  exact wpAny_pyNext_tuple_end (I.ok.hd M) st (show s.heap.IsTuple a j.toArray from p) (by simp;lia) λ h' O=>⟨rfl,I.turned (t':=s.toks) ZD5 q r y A B⟩
 self:=λ _ _ _ _ _ st h=>wpAny_pyIter_tupleiter st h
theorem pZ {P:Program}{w:World}{K:PySem.W.Frag}{N:Expr}(c:Addr) (lo:Int) (n:Nat):Turn P w K N ZCp [c] c (λ i h=>IsRangeIter h c (lo+(i:Nat)*1) ((n:Int)-(i:Nat)) 1) where
 mem:=Ze
 obj:=λ i h st b d=>by
  have e:b=c:=by simpa using d
  subst e
  exact⟨_,st,λ v z=>by
   have O:Data.fields _=Data.cell v:=z
   cases O⟩
 keep:=λ i h h' st k=>k c Z8 _ st
 item:=by
  intro X y C r A i pins s σ H E I g st B
  subst y C r
  obtain⟨j,l,J,m,p,q⟩:=g c Z8
  have W:=Walks.range (prog:=X.prog) (w:=X.w) (I.ok.hd A) c lo 1 n
  refine W.item i s _ _ B st λ v h' D L f M=>?_
  obtain⟨t,rfl⟩:=L
  have F:Inv X pins σ H { s with heap:=h',toks:=D }:=I.turned (λ b o d e=>M b o (by simpa using d) e) j l m p q
  refine⟨_,rfl,rQ (s:={ s with heap:=h',toks:=D }) (n:="range_iterator") f rfl rfl Z4 ⟨.int (lo+i),H,F,⟨t,?_⟩,Z05,f,λ b d=>(g b d).1⟩⟩
  rw[Int.mul_one]
 done:=by
  intro X y C r A i pins s σ H E I g st B
  subst y C r
  obtain⟨j,l,J,m,p,q⟩:=g c Z8
  exact wpAny_pyNext_range_end (I.ok.hd A) st (by have:n<=i:=B;lia) λ h' G=>⟨rfl,I.turned (t':=s.toks) (λ b o d e=>G b o d e) j l m p q⟩
 self:=λ _ _ _ _ _ st h=>wpAny_pyIter_rangeiter st h
section
variable {X:Cx}{tg:Expr}
inductive uX (K:PySem.W.Frag) (R:It->Hp->Prop) (x:V) (H1:Hp):Prop
 | mk:∀ a,x=.ref a->(∃ xs,SqL K H1 a xs)->R ZAM H1->uX K R x H1
def qS (K:PySem.W.Frag) (tl:TE):TI:=λ σ H R=>tl σ H λ x H1=>uX K R x H1
inductive y9 (K:PySem.W.Frag) (R:It->Hp->Prop) (x:V) (H1:Hp):Prop
 | mk:∀ a,x=.ref a->(∃ xs,SqT K H1 a xs)->R ZJm H1->y9 K R x H1
def AL (K:PySem.W.Frag) (tl:TE):TI:=λ σ H R=>tl σ H λ x H1=>y9 K R x H1
theorem xp {l:Expr}{f:TE}(i:PE X l f):PI X tg l (qS X.K f):=by
 intro pins s σ H R I h
 refine thn ZEY λ v d z=>?_
 obtain⟨x,H1,c,n,m⟩:=z
 obtain⟨a,e,⟨xs,j⟩,q⟩:=m
 subst e
 cases n
 obtain⟨k,y,p,r⟩:=c.list j
 refine Ik p.isList ?_
 refine⟨d.heap.objs.size,[d.heap.objs.size],_,_,H1,rfl,c.kept (t':=d.toks) λ b o e=>ZH,tu a _,Z2z,λ b g=>?_,q⟩
 have e:b=d.heap.objs.size:=by simpa using g
 subst e
 exact ZC1
theorem zz {l:Expr}{g:TE}(j:PE X l g):PI X tg l (AL X.K g):=by
 intro pins s σ H R I h
 refine thn ZEW λ v c z=>?_
 obtain⟨x,H1,d,n,m⟩:=z
 obtain⟨a,e,⟨xs,k⟩,q⟩:=m
 subst e
 cases n
 obtain⟨f,y,p,r⟩:=d.tuple k
 refine wpAny_pyIter_tuple (show c.heap.IsTuple a f.toArray from p) ?_
 refine⟨c.heap.objs.size,[c.heap.objs.size],_,_,H1,rfl,d.kept (t':=c.toks) λ b o e=>ZH,qH a _,Z2z,λ b i=>?_,q⟩
 have e:b=c.heap.objs.size:=by simpa using i
 subst e
 exact d.mT Z9 (d.hok.fresh Z9)
theorem ou {pins:List (Addr×Obj)}{σ:St}{H:Hp}{s:Shared}{R:It->Hp->Prop}{E:Value->Shared->Prop}{lo hi:Int}{t u v:Tok}{d:Nat}(I:Z7) (h1 : -(2 ^ 62)<=lo) (h2:lo<2 ^ 62) (i : -(2 ^ 62)<=hi) (j:hi<2 ^ 62)
  (q:R (Itr lo (hi-lo).toNat) H):wpAny Z3 X.A (pyIter ZD) ZF6 E { s with heap:=s.heap.push { cls:=.type "range",data:=.fields #[Z85,Z87,Z9o] },toks:=d }:=by
 refine wpAny_pyIter_range (IsRange.new ..) (small_one h1 h2 i j) ?_
 have c:Inv X pins σ H { s with heap:=s.heap.push { cls:=.type "range",data:=.fields #[Z85,Z87,Z9o] },toks:=d }:=I.kept λ b o e=>ZH
 refine⟨(s.heap.push { cls:=.type "range",data:=.fields #[Z85,Z87,Z9o] }).objs.size,[(s.heap.push { cls:=.type "range",data:=.fields #[Z85,Z87,Z9o] }).objs.size],_,_,H,rfl,
  c.kept (t':=d) λ b o e=>ZH,pZ _ lo (hi-lo).toNat,?_,λ b k=>?_,q⟩
 ·have f:lo+((0:Nat):Int)*1=lo:=Ze
  have g:(((hi-lo).toNat:Nat):Int)-((0:Nat):Int)=Builtin.Range.rangeSize lo hi 1:=by rw[rangeSize_one];split<;>lia
  show IsRangeIter _ _ (lo+((0:Nat):Int)*1) ((((hi-lo).toNat:Nat):Int)-((0:Nat):Int)) 1
  rw[f,g]
  exact ZG
 ·have e:b=(s.heap.push { cls:=.type "range",data:=.fields #[Z85,Z87,Z9o] }).objs.size:=by simpa using k
  subst e
  exact ZC1
inductive uv (R:It->Hp->Prop) (vs:List V) (H1:Hp):Prop
 | mk:∀ j:Int,vs=[Z0r] -> -(2 ^ 62)<=j->j<2 ^ 62->R (Itr 0 j.toNat) H1->uv R vs H1
def Cz (ta:TA):TI:=λ σ H R=>ta σ H λ vs H1=>uv R vs H1
inductive vU (R:It->Hp->Prop) (vs:List V) (H1:Hp):Prop
 | mk:∀ i j:Int,vs=[Z08,Z0r]->(-(2 ^ 62)<=i/\i<2 ^ 62 /\ -(2 ^ 62)<=j/\j<2 ^ 62)->R (Itr i (j-i).toNat) H1->vU R vs H1
def C7 (ta:TA):TI:=λ σ H R=>ta σ H λ vs H1=>vU R vs H1
theorem dF {a:Expr}{ta:TA}{p pos:Pos}(g:Gl X "range") (i:X.mg "range" = none) (f:ZFW) (hs:starEach [a] X.env=[(false,Z3p)]:=by rfl):PI X tg (.Call (.Name "range" p) [a] [] pos) (Cz ta):=by
 intro pins s σ H R I h
 refine Call_ (gJ I g i boot_range (HF (thn (f pos pins s σ H _ I h) λ v n z=>?_) hs rfl))
 obtain⟨y,H1,d,l,c⟩:=z
 obtain⟨j,e,c,k,q⟩:=c
 subst e
 cases l with
 | cons r m=>
  cases m
  obtain⟨t,rfl⟩:=r
  exact call_range_1 (ou d Z1 Z1 c k (by simpa using q))
theorem sZ (l:Gl X "range") (m:X.mg "range" = none) (k:PA X ZLc ta) (hs:starEach ZLc X.env=[(false,Z3p),(false,Z4q)]:=by rfl) (c:starEach [b] X.env=[(false,Z4q)]:=by rfl) :
  PI X tg (.Call (.Name "range" p) ZLc [] pos) (C7 ta):=by
 intro pins s σ H R I h
 refine Call_ (gJ I l m boot_range (HF (thn (k pos pins s σ H _ I h) λ D B z=>?_) (by rw[hs,c]) (by rw[c];rfl)))
 obtain⟨F,H1,g,A,d⟩:=z
 obtain⟨i,j,e,⟨d,n,v,y⟩,q⟩:=d
 subst e
 cases A with
 | cons r f=>
  cases f with
  | cons z f=>
   cases f
   obtain⟨t,rfl⟩:=r
   obtain⟨C,rfl⟩:=z
   exact call_range_2 (ou g d n v y q)
def FG (wi:TI) (g:TG) (tb:TS):TS:=λ D σ H=>wi σ H λ J H1=>∃ W:Nat->Nat->St->Hp->Prop,(∃ m,W 0 m σ H1)/\∀ i m σ H,W i m σ H ->
 (J.stop i H/\D.nx σ H)\/(J.go i H/\∃ N:St->Hp->Prop,(∀ σ' H',N σ' H'->∃ m',m'<m/\W (i+1) m' σ' H')/\∀ x H',J.yld i H x H'->g x σ H' λ σ2 H2=>tb { D with nx:=N,ct:=N,bk:=ZBZ} σ2 H2)
noncomputable def nA (fp:Zq) (h:Heap):List (Addr×Obj):=fp.filterMap λ b=>(h.get? b).map λ o=>(b,o)
theorem gQ (c:b∈fp) (e:h.get? b=some o):(b,o)∈nA fp h:=List.mem_filterMap.mpr ⟨b,c,by rw[e];rfl⟩
theorem tD (f:p∈nA fp h):p.1∈fp/\h.get? p.1=some p.2:=by
 obtain⟨b,d,e⟩:=List.mem_filterMap.mp f
 cases q:h.get? b with
 | none=>rw[q] at e;cases e
 | some o=>
  rw[q] at e
  have c:(b,o)=p:=Z8e
  subst c
  exact⟨d,q⟩
theorem Inv.pinned (I:Z7) (l:∀ b∈f,Z33) (m:∀ b∈f,∃ o,s.heap.get? b=some o/\∀ v,o.data≠.cell v):Inv X (pins++nA f s.heap) σ H s:=
 I.ri λ p n=>(FY.mp n).elim (λ z=>I.pin p (Gf _ z)) λ z=>by
  obtain⟨g,e⟩:=tD z
  obtain⟨i,j,k,_⟩:=l p.1 g
  obtain⟨o,c,d⟩:=m p.1 g
  rw[e] at c;cases c
  exact⟨e,i,j,k,d⟩
theorem Inv.i9 (I:Inv X (pins++pl) σ H s):Z7:=I.ri λ p c=>I.pin p (Gf _ (Gy _ c))
theorem dI {iter:Expr}{body:Z3r}{wi:TI}{g:TG}{tb:TS}{pos:Pos}(hp:ZAF) (hc:X.calm=true) (hi:ZAH) (hg:PG X tg g) (hb:ZLk)
  (hs:∀ x,foldedSetIterable iter X.env x=pure x:=by intro _;rfl):PS X (.For tg iter body [] pos) (FG wi g tb):=by
 intro pins s σ H D I h
 refine wpAny_For Z0a hs
 obtain⟨it,fp,tn,J,H2,e,I2,T,st2,f2,W,⟨m0,w0⟩,turn⟩:=h2
 subst e
 have stat:∀ {H':Hp},(∀ b∈fp,H' b=none)->∀ b∈fp,ZBL:=λ hn b hb=>⟨hn b hb,(f2 b hb).2⟩
 refine codeAny_forLoop_any (λ n s'=>∃ i σ' H',Inv X pins σ' H' s'/\tn i s'.heap/\(∀ b∈fp,H' b=none)/\W i n σ' H') ?_ m0 ⟨0,σ,H2,I2,st2,λ b hb=>(f2 b hb).1,w0⟩
 rintro n s3 ⟨i,σ3,H3,I3,st3,fr3,w3⟩
 rcases turn i n σ3 H3 w3 with ⟨stop,qn⟩|⟨go,N,hN,step⟩
 ·refine Ii hp (thn (T.done X rfl rfl rfl hc i pins s3 σ3 H3 X.xe I3 (stat fr3) st3 stop) λ r s4 z=>?_)
  obtain⟨hr,I4⟩:=z
  subst hr
  exact JF ⟨σ3,H3,I4,qn⟩
 ·refine Ii hp (thn (T.item X rfl rfl rfl hc i pins s3 σ3 H3 X.xe I3 (stat fr3) st3 go) λ r s4 z=>?_)
  obtain⟨u,hr,h4⟩:=z
  subst hr
  refine Ii hp (thn h4 λ _ s5 z=>?_)
  obtain⟨x,H5,I5,r5,y5,st5,fr5⟩:=z
  have I5':=I5.pinned (stat fr5) (T.obj _ _ st5)
  refine Ii hp (thn (hg _ s5 σ3 H5 x u _ I5' r5 (step x H5 y5)) λ _ s6 z=>?_)
  obtain⟨σ6,H6,I6,q6⟩:=z
  refine Ii hp (thn (hb _ s6 σ6 H6 _ I6 q6) λ f s7 q7=>?_)
  have again:∀ {σ7:St} {H7:Hp},Inv X (pins++nA fp s5.heap) σ7 H7 s7->N σ7 H7->∃ m,m<n/\∃ i σ' H',Inv X pins σ' H' s7/\tn i s7.heap/\(∀ b∈fp,H' b=none)/\W i m σ' H':=λ{σ7 H7} I7 n7=>by
   obtain⟨m',hm,w7⟩:=hN σ7 H7 n7
   refine⟨m',hm,i+1,σ7,H7,I7.i9,T.keep _ _ _ st5 λ b hb o e=>(I7.pin (b,o) ZDL).1,λ b hb=>?_,w7⟩
   obtain⟨o,e,d⟩:=T.obj _ _ st5 b hb
   exact(I7.pin (b,o) ZDL).2.1
  cases f with
  | next=>obtain⟨σ7,H7,I7,n7⟩:=q7;exact again I7 n7
  | cont=>obtain⟨σ7,H7,I7,n7⟩:=q7;exact again I7 n7
  | brk=>obtain⟨σ7,H7,I7,q7⟩:=q7;exact⟨σ7,H7,I7.i9,q7⟩
  | ret v=>obtain⟨x7,σ7,H7,I7,r7,q7⟩:=q7;exact⟨x7,σ7,H7,I7.i9,r7,q7⟩
end
theorem gz {K:PySem.W.Frag}{a:Addr}{xs:Z04}{g:TG}{tb:TS}{D:Ends}{σ:St}{H:Hp}(Pv:Nat->St->Hp->Prop) (h0:ZAE) (hl:∀ i σ H,i<=xs.length->Pv i σ H->SqL K H a xs)
  (hs:∀ i x σ H,xs[i]? = some x->Pv i σ H->g x σ H λ σ2 H2=>tb { D with nx:=Pv (i+1),ct:=Pv (i+1),bk:=ZBZ} σ2 H2) (hd:∀ σ H,Pv xs.length σ H->D.nx σ H) :
  ∃ W:Nat->Nat->St->Hp->Prop,(∃ m,Z8c)/\∀ i m σ H,W i m σ H ->
   ((ZAM).stop i H/\D.nx σ H)\/((ZAM).go i H/\∃ N:St->Hp->Prop,(∀ σ' H',N σ' H'->∃ m',m'<m/\W (i+1) m' σ' H')/\∀ x H',(ZAM).yld i H x H'->g x σ H' λ σ2 H2=>tb { D with nx:=N,ct:=N,bk:=ZBZ} σ2 H2):=by
 refine⟨λ i m σ H=>m=xs.length-i/\i<=xs.length/\Pv i σ H,Z4g,?_⟩
 rintro i m σ H ⟨rfl,hi,p⟩
 have q:=Z78
 by_cases hlt:i<xs.length
 ·refine .inr ⟨⟨xs,xs[i],q,by simp[hlt]⟩,Pv (i+1),λ σ' H' p'=>⟨xs.length-(i+1),by lia,rfl,hlt,p'⟩,λ x H' y=>?_⟩
  obtain⟨e,y⟩:=y
  subst e
  exact hs i x σ _ (y xs q) p
 ·have e:i=xs.length:=Z1
  subst e
  exact Z2x
theorem fE {lo:Int}{n:Nat}{g:TG}{tb:TS}{D:Ends}{σ:St}{H:Hp}(Pv:Nat->St->Hp->Prop) (h0:ZAE)
  (hs:∀ i σ H,i<n->Pv i σ H->g (.int (lo+i)) σ H λ σ2 H2=>tb { D with nx:=Pv (i+1),ct:=Pv (i+1),bk:=ZBZ} σ2 H2) (hd:∀ σ H,Pv n σ H->D.nx σ H) :
  ∃ W:Nat->Nat->St->Hp->Prop,(∃ m,Z8c)/\∀ i m σ H,W i m σ H ->
   ((ZCp).stop i H/\D.nx σ H)\/((ZCp).go i H/\∃ N:St->Hp->Prop,(∀ σ' H',N σ' H'->∃ m',m'<m/\W (i+1) m' σ' H')/\∀ x H',(ZCp).yld i H x H'->g x σ H' λ σ2 H2=>tb { D with nx:=N,ct:=N,bk:=ZBZ} σ2 H2):=by
 refine⟨λ i m σ H=>m=n-i/\i<=n/\Pv i σ H,⟨n,Ze,Z8g,h0⟩,?_⟩
 rintro i m σ H ⟨rfl,hi,p⟩
 by_cases hlt:i<n
 ·refine .inr ⟨hlt,Pv (i+1),λ σ' H' p'=>⟨n-(i+1),Z1,rfl,hlt,p'⟩,λ x H' y=>?_⟩
  obtain⟨e,y⟩:=y
  subst e y
  exact hs i σ _ hlt p
 ·have e:i=n:=Z1
  subst e
  exact .inl ⟨Z9,hd σ H p⟩
noncomputable abbrev R2:=V->V->Hp->VK->Prop
def OpR (X:Cx) (f:Value->Value->Sem Value) (r:R2):Prop:=
 ∀ (pins:List (Addr×Obj)) (s:Shared) (σ:St) (H:Hp) (x y:V) (v u:Value) (Q:VK),Inv X pins σ H s->RelV x v->RelV y u->r x y H Q ->
  wpAny Z3 X.A (f v u) Z09 X.xe s
def UnR (X:Cx) (f:Value->Sem Value) (r:V->Hp->VK->Prop):Prop:=
 ∀ (pins:List (Addr×Obj)) (s:Shared) (σ:St) (H:Hp) (x:V) (v:Value) (Q:VK),Inv X pins σ H s->RelV x v->r x H Q ->
  wpAny Z3 X.A (f v) Z09 X.xe s
def eG (X:Cx) (f:Value) (r:List V->Hp->VK->Prop):Prop:=
 ∀ (pins:List (Addr×Obj)) (s:Shared) (σ:St) (H:Hp) (xs:List V) (us:List Value) (Q:VK),Inv X pins σ H s->Vals xs us->r xs H Q ->
  wpAny Z3 X.A (call f us) Z09 X.xe s
def Fx (X:Cx) (r:V->Hp->(Bool->Hp->Prop)->Prop):Prop:=
 ∀ (pins:List (Addr×Obj)) (s:Shared) (σ:St) (H:Hp) (x:V) (v:Value) (Q:Bool->Hp->Prop),Inv X pins σ H s->RelV x v->r x H Q ->
  wpAny Z3 X.A ZCJ Z9b X.xe s
def tOp (r:R2) (ta tb:TE):TE:=λ σ H Q=>ta σ H λ x H1=>tb σ H1 λ y H2=>r x y H2 Q
def tUn (r:V->Hp->VK->Prop) (ta:TE):TE:=λ σ H Q=>ta σ H λ x H1=>r x H1 Q
inductive rI (C:Int->Int->Prop) (g:Int->Int->V) (x:V) (y:V) (H:Hp) (Q:VK):Prop
 | mk:∀ i j,x=.int i->y=.int j->C i j->Q Z5n H->rI C g x y H Q
inductive rI0 (g:Int->Int->V) (x:V) (y:V) (H:Hp) (Q:VK):Prop
 | mk:∀ i j,x=.int i->y=.int j->Q Z5n H->rI0 g x y H Q
inductive rU (g:Int->V) (x:V) (H:Hp) (Q:VK):Prop
 | mk:∀ i,x=.int i->Q (g i) H->rU g x H Q
section
variable {X:Cx}{a b c:Expr}{ta tb tc:TE}{pos:Pos}
theorem zp (l:Z3B) (m:ZAJ) {pins:List (Addr×Obj)}{s:Shared}{σ:St}{H:Hp}{R:V->V->Hp->Prop}(I:Z7)
  (h:ta σ H λ x H1=>tb σ H1 λ y H2=>R x y H2) {Q:Value->Shared->Prop} {f:Value->Value->Sem Value}
  (n:∀ v u i x y H2,Inv X pins σ H2 i->RelV x v->RelV y u->R x y H2->wpAny Z3 X.A (f v u) Q X.xe i) :
  wpAny Z3 X.A Z3p (λ v d=>wpAny Z3 X.A Z4q (λ u g=>wpAny Z3 X.A (f v u) Q X.xe g) X.xe d) X.xe s:=by
 refine thn ZEV λ v A z=>?_
 obtain⟨x,H1,j,r,p⟩:=z
 refine thn (m pins A σ H1 _ j p) λ u i w=>?_
 obtain⟨y,H2,k,z,q⟩:=w
 exact n v u i x y H2 k r z q
theorem cS {op:Operator}{r:R2}(i:OpR X (binaryOp op) r) (f:Z3B) (g:ZAJ):PE X (.BinOp a op b pos) Z8A:=by
 intro pins s σ H Q I h
 exact wpAny_BinOp (zp f g I h λ v u l x y H2 d j k q=>i pins l σ H2 x y v u Q d j k q)
theorem q9 (g:UnR X (unaryOp op) r) (f:Z3B):PE X (.UnaryOp op a pos) (tUn r ta):=by
 intro pins s σ H Q I h
 exact UnaryOp_ (thn (f pins s σ H _ I h) λ v k ⟨x,H1,d,j,i⟩=>g pins k σ H1 x v Q d j i)
theorem opI {f:Value->Value->Sem Value}{C:Int->Int->Prop}{g:Int->Int->Int}
  (d:∀ (i j:Int) (t u:Tok) (s:Shared) (Q:Value->Shared->Prop) (E:Value->Shared->Prop),C i j->Q ZHZ { s with toks:=s.toks+1 }->wpAny Z3 X.A Z56 Q E s) :
  OpR X f (rI C λ i j=>.int Z5n):=by
 intro pins s σ H x y v u Q I l m h
 obtain⟨i,j,rfl,rfl,k,q⟩:=h
 obtain⟨t,rfl⟩:=l
 obtain⟨n,rfl⟩:=m
 exact d i j t n s _ _ k ZB1
theorem wM {f:Value->Value->Sem Value}{g:Int->Int->Int}
  (d:∀ (i j:Int) (t u:Tok) (s:Shared) (Q:Value->Shared->Prop) (E:Value->Shared->Prop),Q ZHZ { s with toks:=s.toks+1 }->wpAny Z3 X.A Z56 Q E s) :
  OpR X f (rI0 λ i j=>.int Z5n):=by
 intro pins s σ H x y v u Q I k l h
 obtain⟨i,j,rfl,rfl,q⟩:=h
 obtain⟨t,rfl⟩:=k
 obtain⟨m,rfl⟩:=l
 exact d i j t m s _ _ ZB1
theorem xu {f:Value->Value->Sem Value}{g:Int->Int->Bool}
  (d:∀ (i j:Int) (t u:Tok) (s:Shared) (Q:Value->Shared->Prop) (E:Value->Shared->Prop),Q (.bool Z5n) s->wpAny Z3 X.A Z56 Q E s) :
  OpR X f (rI0 λ i j=>.bl Z5n):=by
 intro pins s σ H x y v u Q I k l h
 obtain⟨i,j,rfl,rfl,q⟩:=h
 obtain⟨t,rfl⟩:=k
 obtain⟨m,rfl⟩:=l
 exact d i j t m s _ _ ⟨.bl Z5n,H,I,rfl,q⟩
def Fu (i j:Int):Prop:=0<j/\j<1073741824
def zZ (i j:Int):Prop:=(-(2 ^ 64)<i/\i<2 ^ 64)\/(-(2 ^ 64)<j/\j<2 ^ 64)
theorem zZ.ok (h:zZ i j):IntMulOk i j:=by
 rcases h with ⟨h1,h2⟩|⟨h1,h2⟩
 ·exact .of_left ZEX
 ·exact .of_right ZEX
theorem pR (k):(0:Int)<=2 ^ k:=by
 rw[two_pow_cast]
 exact Int.natCast_nonneg _
theorem dM:OpR X ZJk (rI0 λ i j=>.int (i+j)):=wM λ _ _ _ _ _ _ _ q=>add_int q
theorem mU:OpR X (binaryOp .Sub) (rI0 λ i j=>.int (i-j)):=wM λ _ _ _ _ _ _ _ q=>sub_int q
theorem gW:OpR X (binaryOp .Mult) (rI zZ λ i j=>.int (i*j)):=opI λ _ _ _ _ _ _ _ d q=>mul_int q d.ok
theorem fV:OpR X (binaryOp .FloorDiv) (rI Fu λ i j=>.int (i/j)):=opI λ i j _ _ _ _ _ d q=>by
 have h1:(0:Int)<j:=d.1
 have h2:j<1073741824:=d.2
 exact floordiv_int Z1 (by rw[Int.fdiv_eq_ediv_of_nonneg i Z1];exact q) (.inl (PyProof.noPylong_small Z1))
theorem eg:OpR X (binaryOp .Mod) (rI (λ _ j=>0<j) λ i j=>.int (i%j)):=opI λ i j _ _ _ _ _ d q=>by
 have h1:(0:Int)<j:=d
 exact mod_int' Z1 (by rw[Int.fmod_eq_emod_of_nonneg i Z1];exact q)
theorem kx:OpR X (binaryOp .RShift) (rI (λ _ j=>0<=j) λ i j=>.int (i/2 ^ j.toNat)):=opI λ i j _ _ _ _ _ d q=>
 rshift_int d (by rw[Int.fdiv_eq_ediv_of_nonneg i (pR _)];exact q)
theorem iR:OpR X (binaryOp .BitAnd) (rI0 λ i j=>.int (Builtin.bitAnd i j)):=wM λ _ _ _ _ _ _ _ q=>and_int q
theorem Ag:OpR X (binaryOp .BitXor) (rI0 λ i j=>.int (Builtin.bitXor i j)):=wM λ _ _ _ _ _ _ _ q=>xor_int q
theorem unI {f:Value->Sem Value}{g:Int->Int}
  (d:∀ (i:Int) (t:Tok) (s:Shared) (Q:Value->Shared->Prop) (E:Value->Shared->Prop),Q (.int (g i) s.toks) { s with toks:=s.toks+1 }->wpAny Z3 X.A (f Z9n) Q E s) :
  UnR X f (rU λ i=>.int (g i)):=by
 intro pins s σ H x v Q I j h
 obtain⟨i,rfl,q⟩:=h
 obtain⟨t,rfl⟩:=j
 exact d i t s _ _ ⟨.int (g i),H,Z1u,Z18,q⟩
theorem ng:UnR X (unaryOp .USub) (rU λ i=>.int (-i)):=unI λ _ _ _ _ _ q=>neg_int q
end
noncomputable def Ex:V->V->Bool
 | .non,.non=>true | .non,.int _=>true | .int _,.non=>true | .non,.bl _=>true | .bl _,.non=>true | .non,.str _=>true | .str _,.non=>true
 | .int _,.int _=>true | .bl _,.bl _=>true | .str _,.str _=>true | .byt _,.byt _=>true
 | .int _,.str _=>true | .str _,.int _=>true | .bl _,.str _=>true | .str _,.bl _=>true
 | _,_=>false
def rEq:R2:=λ x y H Q=>Ex x y=true/\Q (.bl (decide (x=y))) H
def rNe:R2:=λ x y H Q=>Ex x y=true/\Q (.bl (!decide (x=y))) H
theorem rV:decide (V.int i=V.int j)=(i == j):=by
 rw[Hn]
 simp
theorem vd:decide (V.bl i=V.bl j)=(i == j):=by
 rw[Hn]
 simp
theorem qP:decide (V.str i=V.str j)=(i == j):=by
 rw[Hn]
 simp
theorem rr:decide (V.byt i=V.byt j)=(i.toList == j.toList):=by
 rw[Hn]
 cases i
 cases j
 simp
section
variable {X:Cx}{a b c:Expr}{ta tb tc:TE}{pos:Pos}
theorem dv (I:Z7) (q:Q (.bl k) H) (e:k=k'):EP X pins σ Q (.bool k') s:=by
 subst e
 exact⟨.bl k,H,I,rfl,q⟩
theorem hU:OpR X ZAl rEq:=by
 intro pins s σ H x y v u Q I rx ry h
 obtain⟨hs,q⟩:=h
 cases x with
 | non=>
  cases rx
  cases y with
  | non=>cases ry;exact PySem.EqNone.eq_none_none Z0G
  | bl j=>cases ry;exact PySem.EqNone.eq_none_bool Z0G
  | int j=>obtain⟨t',rfl⟩:=ry;exact PySem.EqNone.eq_none_int Z0G
  | str j=>obtain⟨t',rfl⟩:=ry;exact PySem.EqNone.eq_none_str Z0G
  | _=>exact absurd (show false=true from hs) Gb
 | bl i=>
  cases rx
  cases y with
  | non=>cases ry;exact PySem.EqNone.eq_bool_none Z0G
  | bl j=>cases ry;exact eq_bool (dv I q vd)
  | str j=>obtain⟨t',rfl⟩:=ry;exact PySem.EqMixed.eq_bool_str Z0G
  | _=>exact absurd (show false=true from hs) Gb
 | int i=>
  obtain⟨t,rfl⟩:=rx
  cases y with
  | non=>cases ry;exact PySem.EqNone.eq_int_none Z0G
  | int j=>obtain⟨t',rfl⟩:=ry;exact eq_int (dv I q rV)
  | str j=>obtain⟨t',rfl⟩:=ry;exact PySem.EqMixed.eq_int_str Z0G
  | _=>exact absurd (show false=true from hs) Gb
 | str i=>
  obtain⟨t,rfl⟩:=rx
  cases y with
  | non=>cases ry;exact PySem.EqNone.eq_str_none Z0G
  | bl j=>cases ry;exact PySem.EqMixed.eq_str_bool Z0G
  | int j=>obtain⟨t',rfl⟩:=ry;exact PySem.EqMixed.eq_str_int Z0G
  | str j=>obtain⟨t',rfl⟩:=ry;exact eq_str (dv I q qP)
  | _=>exact absurd (show false=true from hs) Gb
 | byt i=>
  obtain⟨t,rfl⟩:=rx
  cases y with
  | byt j=>obtain⟨t',rfl⟩:=ry;exact PySem.W.eq_bytes (dv I q rr)
  | _=>exact absurd (show false=true from hs) Gb
 | _=>cases y<;>exact absurd (show false=true from hs) Gb
theorem yh:OpR X Z8E rNe:=by
 intro pins s σ H x y v u Q I rx ry h
 obtain⟨hs,q⟩:=h
 cases x with
 | non=>
  cases rx
  cases y with
  | non=>cases ry;exact PySem.EqNone.ne_none_none Z0G
  | bl j=>cases ry;exact PySem.EqNone.ne_none_bool Z0G
  | int j=>obtain⟨t',rfl⟩:=ry;exact PySem.EqNone.ne_none_int Z0G
  | str j=>obtain⟨t',rfl⟩:=ry;exact PySem.EqNone.ne_none_str Z0G
  | _=>exact absurd (show false=true from hs) Gb
 | bl i=>
  cases rx
  cases y with
  | non=>cases ry;exact PySem.EqNone.ne_bool_none Z0G
  | bl j=>cases ry;exact ne_bool (dv I q (congrArg not vd))
  | str j=>obtain⟨t',rfl⟩:=ry;exact PySem.EqMixed.ne_bool_str Z0G
  | _=>exact absurd (show false=true from hs) Gb
 | int i=>
  obtain⟨t,rfl⟩:=rx
  cases y with
  | non=>cases ry;exact PySem.EqNone.ne_int_none Z0G
  | int j=>obtain⟨t',rfl⟩:=ry;exact ne_int (dv I q (congrArg not rV))
  | str j=>obtain⟨t',rfl⟩:=ry;exact PySem.EqMixed.ne_int_str Z0G
  | _=>exact absurd (show false=true from hs) Gb
 | str i=>
  obtain⟨t,rfl⟩:=rx
  cases y with
  | non=>cases ry;exact PySem.EqNone.ne_str_none Z0G
  | bl j=>cases ry;exact PySem.EqMixed.ne_str_bool Z0G
  | int j=>obtain⟨t',rfl⟩:=ry;exact PySem.EqMixed.ne_str_int Z0G
  | str j=>obtain⟨t',rfl⟩:=ry;exact ne_str (dv I q (congrArg not qP))
  | _=>exact absurd (show false=true from hs) Gb
 | byt i=>
  obtain⟨t,rfl⟩:=rx
  cases y with
  | byt j=>obtain⟨t',rfl⟩:=ry;exact PySem.W.ne_bytes (dv I q (congrArg not rr))
  | _=>exact absurd (show false=true from hs) Gb
 | _=>cases y<;>exact absurd (show false=true from hs) Gb
theorem pq:OpR X (compareOp .Lt) (rI0 λ i j=>.bl (decide (i<j))):=xu λ _ _ _ _ _ _ _ q=>lt_int q
theorem kU:OpR X (compareOp .LtE) (rI0 λ i j=>.bl (decide (i<=j))):=xu λ _ _ _ _ _ _ _ q=>le_int q
theorem yV:OpR X (compareOp .Gt) (rI0 λ i j=>.bl (decide (j<i))):=xu λ _ _ _ _ _ _ _ q=>gt_int q
theorem oS:OpR X (compareOp .GtE) (rI0 λ i j=>.bl (decide (j<=i))):=xu λ _ _ _ _ _ _ _ q=>ge_int q
theorem zY:OpR X (compareOp .Is) (λ x y H Q=>y=.non/\Q (.bl (decide (x=.non))) H):=by
 intro pins s σ H x y v u Q I d f h
 obtain⟨rfl,q⟩:=h
 cases f
 refine is_none_gen (dv I q ?_)
 cases x<;>first
  | (cases d;rfl)
  | (obtain⟨t,rfl⟩:=d;rfl)
theorem mP:OpR X (compareOp .IsNot) (λ x y H Q=>y=.non/\Q (.bl (!decide (x=.non))) H):=by
 intro pins s σ H x y v u Q I d f h
 obtain⟨rfl,q⟩:=h
 cases f
 refine isnot_none_gen (dv I q ?_)
 cases x<;>first
  | (cases d;rfl)
  | (obtain⟨t,rfl⟩:=d;rfl)
theorem df (b:Expr) (h:op≠.In:=by decide) (h2:op≠.NotIn:=by decide):behindInMarks op b=false:=by
 have d:(op == CmpOp.In)=false:=by cases op<;>first|rfl|exact ZDx
 have f:(op == CmpOp.NotIn)=false:=by cases op<;>first|rfl|exact ZLb
 cases b<;>simp[behindInMarks,d,f]
theorem eX {op:CmpOp}{r:R2}(j:ZDV) (f:Z3B) (g:ZAJ) (i:behindInMarks op b=false):PE X Z59 Z8A:=by
 intro pins s σ H Q I h
 exact wpAny_Compare1 (zp f g I h λ v u m x y H2 d k l q=>j pins m σ H2 x y v u Q d k l q) i
inductive wh (Q:Bool->Hp->Prop) (x:V) (H':Hp):Prop
 | mk:∀ k,x=.bl k->Q k H'->wh Q x H'
def vG (t:TE):TT:=λ σ H Q=>t σ H λ x H'=>wh Q x H'
theorem cZ (n:ZDV) (j:Z3B) (l:ZAJ) (m:behindInMarks op b=false):PT X Z59 (vG Z8A):=by
 intro pins s σ H Q I h
 refine wpAny_isTrue_Compare1 (thn ZEW λ v F ⟨x,H1,f,B,p⟩=>thn (l pins F σ H1 _ f p) λ u G ⟨y,H2,g,C,q⟩=>
  thn (n pins G σ H2 x y v u _ g B C q) λ c J ⟨z,d,i,D,k,e,A⟩=>?_) m
 subst e
 cases D
 exact Hh ⟨d,i,A⟩
def AO (K:PySem.W.Frag) (x:V) (H:Hp) (k:Bool):Prop:=
 match x with
 | .non=>k=false
 | .bl b=>k=b
 | .int i=>k=(i != 0)
 | .str y=>y.length<=sizeLine/\k=((y.length:Int) != 0)
 | .byt y=>y.size<=sizeLine/\k=((y.size:Int) != 0)
 | .ref p=>(∃ xs,SqL K H p xs/\k = !xs.isEmpty)\/(∃ xs,SqT K H p xs/\k = !xs.isEmpty)\/∃ kvs,H p=some Z1o/\k = !kvs.isEmpty
 | _=>False
theorem qy (r:Z6S):(!vs.isEmpty) = !kvs.isEmpty:=by
 cases r<;>rfl
theorem kN (r:Vals xs its):(!its.toArray.isEmpty) = !xs.isEmpty:=by
 cases r<;>simp
theorem ko:(sizeLine:Nat)<2 ^ 63:=by rw[HQ];decide
theorem Ay:Fx X (λ x H Q=>∃ k,AO X.K x H k/\Q k H):=by
 intro pins s σ H x v Q I rx h
 obtain⟨k,e,q⟩:=h
 have hl:=ko
 have hs:sizeLine=16777216:=HQ
 cases x with
 | non=>
  cases rx
  have e':k=false:=e
  subst e'
  exact truthy_none ZFH
 | bl b=>
  cases rx
  have e':k=b:=e
  subst e'
  exact Hh ZFH
 | int i=>
  obtain⟨t,rfl⟩:=rx
  have e':k=(i != 0):=e
  subst e'
  exact PySem.P.truthy_int ZFH
 | str y=>
  obtain⟨t,rfl⟩:=rx
  obtain⟨hy,e'⟩:y.length<=sizeLine/\k=((y.length:Int) != 0):=e
  subst e'
  exact PySem.P.truthy_str Z1 ZL5
 | byt y=>
  obtain⟨t,rfl⟩:=rx
  obtain⟨hy,e'⟩:y.size<=sizeLine/\k=((y.size:Int) != 0):=e
  subst e'
  exact PySem.W.truthy_bytes Z1 ZL5
 | ref p=>
  cases rx
  have e':(∃ xs,SqL X.K H p xs/\k = !xs.isEmpty)\/(∃ xs,SqT X.K H p xs/\k = !xs.isEmpty)\/∃ kvs,H p=some Z1o/\k = !kvs.isEmpty:=e
  rcases e' with ⟨xs,hx,e'⟩|⟨xs,hx,e'⟩|⟨kvs,hx,e'⟩
  ·subst e'
   obtain⟨its,r,pl,hz⟩:=I.list hx
   have hlen:=r.length
   exact wpAny_truthy_list pl.isList (by simp only[F7];lia) ⟨H,Z1u,by rw[kN r];exact q⟩
  ·subst e'
   obtain⟨its,r,pl,hz⟩:=I.tuple hx
   have hlen:=r.length
   exact truthy_tuple pl (by simp only[F7];lia) ⟨H,Z1u,by rw[kN r];exact q⟩
  ·subst e'
   obtain⟨hz,hS,vs,r,m⟩:kvs.length<=sizeLine/\(p == sysModules)=false/\∃ vs,KV kvs vs/\s.heap.DictOf (dJ X.prog X.w) p vs:=I.hok p _ hx
   have hlen:kvs.length=vs.length:=Z3A
   exact wpAny_truthy_dict hS m Z1 ⟨H,Z1u,by rw[qy r];exact q⟩
 | _=>exact(show False from e).elim
inductive ud (K:PySem.W.Frag) (Q:Bool->Hp->Prop) (x:V) (H':Hp):Prop
 | mk:∀ k,AO K x H' k->Q k H'->ud K Q x H'
theorem t9 (ha:Z3B) (he:∀ whole,isTrue a X.env whole=(do let v <- whole;standAt a.pos;holding [v] ZCJ)) :
  PT X a (λ σ H Q=>ta σ H λ x H'=>ud X.K Q x H'):=by
 intro pins s σ H Q I h
 exact isTrue_plain (thn ZDe λ v s1 ⟨x,H1,I1,r1,k,t,q⟩=>Ay pins s1 σ H1 x v Q I1 r1 ⟨k,t,q⟩) (he _)
theorem vals1 (r:Vals [x] us):∃ u,us=[u]/\RelV x u:=by
 cases r with
 | cons d f=>cases f;exact⟨_,rfl,d⟩
theorem vals2 (r:Vals [x,y] us):∃ u d,us=[u,d]/\RelV x u/\RelV y d:=by
 cases r with
 | cons f g=>
  cases g with
  | cons i j=>cases j;exact⟨_,_,rfl,f,i⟩
theorem mf (f:X.calm=true):eG X (.builtin "max") (λ xs H Q=>∃ i j,xs=[Z08,Z0r]/\Q (.int (if j>i then j else i)) H):=by
 intro pins s σ H xs m Q I r h
 obtain⟨i,j,rfl,q⟩:=h
 obtain⟨u,n,rfl,⟨t,rfl⟩,⟨g,rfl⟩⟩:=ZIJ
 refine max_two_ints (I.ok.hd f) λ h' l k=>ZC_
 by_cases d:j>i
 ·rw[FX d,FX d];exact Z18
 ·rw[FV d,FV d];exact Z18
theorem sQ (f:X.calm=true):eG X (.builtin "min") (λ xs H Q=>∃ i j,xs=[Z08,Z0r]/\Q (.int (if j<i then j else i)) H):=by
 intro pins s σ H xs m Q I r h
 obtain⟨i,j,rfl,q⟩:=h
 obtain⟨u,n,rfl,⟨t,rfl⟩,⟨g,rfl⟩⟩:=ZIJ
 refine min_two_ints (I.ok.hd f) λ h' l k=>ZC_
 by_cases d:j<i
 ·rw[FX d,FX d];exact Z18
 ·rw[FV d,FV d];exact Z18
end
structure pU (h:Heap) (x dx C:Addr) (mA:Str->Option Value):Prop where
 obj:h.get? x=some Z66
 ns:h.Ns1 dx mA
 ne:dx≠x
theorem tN {h:Heap}{f:Addr}{i:Str->Option Value}(n:h.Ns1 f i):∃ od,h.get? f=some od/\∀ name,PySem.W.lookIn name od=some (i name):=by
 obtain⟨o,g,v,p,k,l,_,m⟩:=n
 refine⟨o,p,λ name=>?_⟩
 have e:=m name
 unfold nsFind findBy at e
 rw[<- Array.find?_toList] at e
 unfold PySem.W.lookIn
 rw[k]
 dsimp only
 split
 ·rename_i y q
  rw[q] at e
  exact Z36
 ·rename_i q
  rw[q] at e
  have a:g.toList.any (·.refKey)=false:=by
   rw[List.any_eq_false]
   intro y r
   obtain⟨z,t,d⟩:=l y (Array.mem_toList_iff.mp r)
   simp[DictEntry.refKey,d]
  have j:¬ g.toList.any (·.refKey)=true:=by rw[a];exact Gb
  rw[FV j]
  exact Z36
theorem pU.look (I:pU h x dx C mA):∃ od,PySem.W.InstAt h x Z66 C (some od)/\∀ name,PySem.W.lookIn name od=some (mA name):=
 let ⟨od,f,d⟩:=tN I.ns
 ⟨od,⟨I.obj,rfl,rfl,f⟩,d⟩
section
variable {prog:Program}{w:World}{A:Around}{E:Value->Shared->Prop}{s:Shared}{K:PySem.W.Frag}{x dx C f:Addr}{mA:Str->Option Value}{name:Str}{v:Value}
theorem get_map (X:Z2d) (I:Z7V) (i:PySem.W.plainGet K C name=true) (j:PySem.W.hasDictIn K C=true)
  (g:PySem.W.findIn K Z0U name=some none) (l:mA name=some v) (d:PySem.W.handedIn v=true) (h:Q v { s with toks:=s.toks+1 }) :
  wpAny ZF A (getAttr Z2b name expr) Q E s:=by
 obtain⟨m,J,k⟩:=I.look
 exact PySem.W.get_value X J (Iw i).1 (PySem.W.findObj_own j g rfl (by rw[k,l])) d h
theorem vy (X:Z2d) (I:Z7V) (d:PySem.W.plainGet K C name=true)
  (g:PySem.W.findIn K Z0U name=some Z32) (j:PySem.W.isFn K Z06=true) (k:mA name=none) (h:Q (Z7H,[.ref x]) s) :
  wpAny ZF A (getMethod Z2b name pl) Q E s:=by
 obtain⟨l,J,i⟩:=I.look
 exact PySem.W.method_fn X J (Iw d).1 (Iw d).2 g (HK.mp j) (by show (PySem.W.lookIn name l).map (·.isSome)=some false;rw[i,k];rfl) h
theorem wG (X:Z2d) (I:Z7V)
  (hs:PySem.W.findIn K Z0U "__setattr__" = some (some (.builtin "object.__setattr__"))) (z:PySem.W.plainOver K C=true) (B:PySem.W.takerIn K C name=some none) (q:PySem.W.hasDictIn K C=true)
  (D:PySem.Within mA ns) (hsz:ns.length<=sizeLine)
  (h:∀ h',pU h' x dx C (λ y=>if y=name then some v else mA y)->Heap.SameBut dx s.heap h'->Q () { s with heap:=h',toks:=s.toks+2 }) :
  wpAny ZF A (setAttr Z2b name v) Q E s:=by
 obtain⟨N,J,L⟩:=I.look
 refine PySem.W.set_plain X J hs (PySem.W.osa_open (s:={ s with toks:=s.toks+1 }) (r:=none) X J z B λ b=>?_)
 obtain⟨G,p,j⟩:=PySem.W.any_some q
 have F:s.heap.get? x=some ⟨.ref C,some dx,.plain,#[]⟩:=I.obj
 refine FI (FN (FI (FI (wpAny_loadPart F (FI (PySem.W.Looks.here (s:={ s with toks:=s.toks+1 }) (PySem.W.looks_clsIn X p) ?_))))))
 rw[j]
 refine FN (a:=some dx) (FI (FN Z3V))
 refine wpAny_nsSet1 (s:={ s with toks:=s.toks+1 }) I.ns λ h' d g=>?_
 obtain⟨M,n,m,l,k,i⟩:=d.count (PySem.Within.cons name v D)
 refine FI (wpAny_lookBehind l (by rw[k];exact pastItsLine_dict (Gd i (by rw[GF];lia))) ?_)
 exact FN (h _ ⟨(g.2 _ (Ne.symm I.ne)).trans I.obj,d,I.ne⟩ g)
theorem uE (X:Z2d) (k:PySem.W.makesIn K C=true)
  (hi:PySem.W.findIn K Z0U "__init__" = some Z32) (j:PySem.W.typeIn K Z06=some (.type "function"))
  (h:codeAny ZF (A.under (.builtin "type.__call__" ⟨.ref C::vs,kw⟩)) (.call Z06 ⟨.ref (s.heap.objs.size+1)::vs,kw⟩) (PySem.W.InitBack (s.heap.objs.size+1) R)
   { s with heap:=ZAo}) :
  codeAny ZF A (.call Z0U ⟨vs,kw⟩) R s:=by
 obtain⟨l,g,d,t,m⟩:=s
 exact PySem.W.make_core (Kf X k) ZAq (λ i=>PySem.W.bind_fn X i j) Z0N h
theorem tP (X:Z2d) (k:PySem.W.makesIn K C=true)
  (hi:PySem.W.findIn K Z0U "__init__" = some (some (.builtin "object.__init__")))
  (j:∀ i,PySem.W.Looks ZF s.heap (bindSpecial (.builtin "object.__init__") i) (.builtin "object.__init__",[i]))
  (h:codeAny ZF (A.under (.builtin "type.__call__" ⟨[.ref C],[]⟩)) (.call (.builtin "object.__init__") ⟨[.ref (s.heap.objs.size+1)],[]⟩) (PySem.W.InitBack (s.heap.objs.size+1) R)
   { s with heap:=ZAo}) :
  codeAny ZF A (.call Z0U ZFE) R s:=by
 obtain⟨l,g,d,t,m⟩:=s
 exact PySem.W.make_core (Kf X k) ZAq j ZD3 h
end
noncomputable def cL (f:Str) (v:V):List (Str×V)->List (Str×V)
 | []=>[(f,v)]
 | (g,x)::r=>if g=f then (g,v)::r else (g,x)::cL f v r
theorem dC (f g) (v):∀ fs:List (Str×V),(ZA9).lookup g=if g=f then some v else fs.lookup g
 | []=>by
  show List.lookup g [(f,v)]=_
  by_cases h:g=f
  ·have d:(g == f)=true:=ZLs
   simp only[List.lookup,d,FX h]
  ·have d:(g == f)=false:=ZLt
   simp only[List.lookup,d,FV h]
 | (k,x)::r=>by
  have j:=dC f g v r
  rw[show cL f v ((k,x)::r)=(if k=f then (k,v)::r else (k,x)::cL f v r) from rfl]
  by_cases i:k=f
  ·rw[FX i]
   by_cases h:g=k
   ·have d:(g == k)=true:=ZLs
    simp only[List.lookup,d,FX (h.trans i)]
   ·have d:(g == k)=false:=ZLt
    simp only[List.lookup,d,FV (λ e:g=f=>h (e.trans i.symm))]
  ·rw[FV i]
   by_cases h:g=k
   ·have d:(g == k)=true:=ZLs
    simp only[List.lookup,d,FV (λ e:g=f=>i (h.symm.trans e))]
   ·have d:(g == k)=false:=ZLt
    simp only[List.lookup,d]
    exact j
theorem ju (f) (v):∀ fs:List (Str×V),f∈(ZA9).map (·.1)/\∀ g,g∈fs.map (·.1)->g∈(ZA9).map (·.1)
 | []=>⟨by simp[cL],λ g h=>by simp at h⟩
 | (k,x)::r=>by
  obtain⟨i,j⟩:=ju f v r
  rw[show cL f v ((k,x)::r)=(if k=f then (k,v)::r else (k,x)::cL f v r) from rfl]
  by_cases d:k=f
  ·rw[FX d]
   subst d
   exact⟨Ze,λ g h=>by simpa using h⟩
  ·rw[FV d]
   refine⟨?_,λ g h=>?_⟩
   ·rw[Gq]
    exact FW _ i
   ·rw[Gq] at h ⊢
    rcases FR.mp h with e|e
    ·exact FR.mpr ZAa
    ·exact FW _ (j g e)
theorem dE (f) (v):∀ fs:List (Str×V),(ZA9).length<=fs.length+1
 | []=>by simp[cL]
 | (k,x)::r=>by
  have g:=dE f v r
  rw[show cL f v ((k,x)::r)=(if k=f then (k,v)::r else (k,x)::cL f v r) from rfl]
  by_cases d:k=f
  ·rw[FX d,GF,GF];lia
  ·rw[FV d,GF,GF];lia
theorem gO.some_of (r:gO Z3h o):∃ u,o=some u/\RelV v u:=by
 cases o with
 | none=>exact(show False from r).elim
 | some u=>exact⟨u,rfl,r⟩
theorem gO.none_of (r:gO none o):o=none:=by
 cases o with
 | none=>rfl
 | some u=>exact(show False from r).elim
theorem tU {v:V}{u:Value}(r:Z9j):PySem.W.handedIn u=true:=by
 cases v with
 | non=>cases (show u=Value.none from r);rfl
 | bl b=>cases (show u=Value.bool b from r);rfl
 | int i=>obtain⟨t,e⟩:=(show ∃ t,u=Value.int i t from r);cases e;rfl
 | str x=>obtain⟨t,e⟩:=(show ∃ t,u=Value.str x t from r);cases e;rfl
 | byt b=>obtain⟨t,e⟩:=(show ∃ t,u=Value.bytes b t from r);cases e;rfl
 | flt b=>obtain⟨t,e⟩:=(show ∃ t,u=Value.float b t from r);cases e;rfl
 | ref a=>cases (show u=Value.ref a from r);rfl
 | ty n=>cases (show u=Value.type n from r);rfl
section
variable {P:Program}{w:World}{H H':Hp}{h h':Heap}{a C dx:Addr}{fs fs':List (Str×V)}
theorem i7 (g:Z0c) (e:H a=some Z0A):∃ mA,pU h a dx C mA/\(∀ f,Z5b)/\PySem.Within mA (fs.map (·.1))/\fs.length<=1000/\H dx=some ZDP:=by
 obtain⟨d,z,i,j,mA,n,r,q⟩:=(show dm P w H h a Z0A from g a _ e)
 exact⟨mA,⟨j,n,i⟩,r,q,z,d⟩
end
structure Cls (K:PySem.W.Frag) (C:Addr):Prop where
 pg:PySem.W.plainGet K C Str.empty=true
 hd:PySem.W.hasDictIn K C=true
 po:PySem.W.plainOver K C=true
 sa:PySem.W.findIn K Z0U "__setattr__" = some (some (.builtin "object.__setattr__"))
theorem Cls.get {K:PySem.W.Frag}{C:Addr}(c:Cls K C) (f:Str):PySem.W.plainGet K C f=true:=c.pg
def dr (K:PySem.W.Frag) (C:Addr) (f:Str):Prop:=PySem.W.findIn K Z0U f=some none
theorem dr.Cv {K:PySem.W.Frag}{C:Addr}{f:Str}(n:dr K C f):PySem.W.takerIn K C f=some none:=by
 unfold PySem.W.takerIn
 rw[show PySem.W.findIn K Z0U f=some none from n]
 rfl
structure Meth (K:PySem.W.Frag) (C:Addr) (m:Str) (f:Addr):Prop where
 at_:PySem.W.findIn K Z0U m=some Z32
 fn:PySem.W.isFn K Z06=true
 kp:PySem.W.keepIn K Z06=true
section
variable {X:Cx}{pins:List (Addr×Obj)}{σ:St}{H:Hp}{s:Shared}{a C dx:Addr}{fs:List (Str×V)}{f:Str}{v:V}{A:Around}{E:Value->Shared->Prop}
theorem kn (I:Z7) (e:H a=some Z0A) (c:Z6W) (n:dr X.K C f) (l:fs.lookup f=some v)
  (h:∀ u g,Inv X pins σ H g->RelV v u->Q u g):wpAny Z3 A (getAttr Z_ f b) Q E s:=by
 obtain⟨mA,O,r,_,_,_⟩:=ZBu
 obtain⟨u,i,d⟩:=gO.some_of (v:=v) (o:=mA f) (by rw[<- l];exact r f)
 exact get_map I.kIn O (c.get f) c.hd n i (tU d) (h u _ Z1u d)
theorem kL (I:Z7) (e:H a=some Z0A) (c:Z6W) (k:Meth X.K C m g) (l:fs.lookup m=none)
  (h:Q (.ref g,ZKR) s):Z74:=by
 obtain⟨mA,O,r,_,_,_⟩:=ZBu
 have d:mA m=none:=gO.none_of (by rw[<- l];exact r m)
 exact vy I.kIn O ZJi k.at_ k.fn d h
theorem qv (I:Z7) (e:H a=some Z0A) (c:Z6W) (n:dr X.K C f) (J:fs.length<1000) (F:Z3c)
  (h:∀ j,Inv X pins σ (upd H a ZDQ) j->Q () j):wpAny Z3 A (setAttr Z_ f u) Q E s:=by
 obtain⟨mA,O,r,k,_,i⟩:=ZBu
 have D:(fs.map (·.1)).length<=sizeLine:=by rw[FO,HQ];lia
 refine wG I.kIn O c.sa c.po n.Cv c.hd k D λ h' d G=>h _ ?_
 have p:∃ o,h'.get? dx=some o:=let ⟨o,_,_,l,_⟩:=d.ns;⟨o,l⟩
 refine I.write (x:=a) (e:=dx) (by rw[e];exact True.intro) (.inr i) (λ b q m z=>(G.2 b m).trans z) p ?_
 refine⟨by rw[cz O.ne];exact i,?_,O.ne,d.obj,_,d.ns,λ g=>?_,λ g B=>?_⟩
 ·have:=dE f y fs;lia
 ·show gO ((cL f y fs).lookup g) (if g=f then some u else mA g)
  rw[dC]
  by_cases q:g=f
  ·rw[ZKb,ZKb];exact F
  ·rw[ZKd,ZKd];exact r g
 ·by_cases q:g=f
  ·rw[q];exact(ju f y fs).1
  ·refine(ju f y fs).2 g (k g λ z=>B ?_)
   show (if g=f then some u else mA g)=none
   rw[ZKd];exact z
theorem Inv.made (I:Z7):Inv X pins σ (upd (upd H s.heap.objs.size (.own (s.heap.objs.size+1))) (s.heap.objs.size+1) ZB7)
  { s with heap:=ZAo}:=by
 have d:(Z0C).get? s.heap.objs.size=some PySem.W.emptyDict:=Heap.get?_push_size s.heap rfl
 have j:((Z0C).push Z0M).get? (s.heap.objs.size+1)=some (Z0M):=by
  have:=Heap.get?_push_size Z0C (o:=Z0M) rfl
  rwa [Heap.size_push] at this
 have k:(Z0C).Ns s.heap.objs.size (λ _=>none):=⟨PySem.W.emptyDict,#[],_,d,rfl,(λ e l=>absurd l Z8),λ _=>rfl⟩
 have i:=I.laid (a:=s.heap.objs.size) (o:=.own (s.heap.objs.size+1)) (h':=Z0C) (t':=s.toks) ZKm Z9 ⟨_,d⟩
 refine i.laid (a:=s.heap.objs.size+1) (o:=ZB7) (t':=s.toks) ZKm (Ka (Heap.size_push _ _)) ?_
 have g:s.heap.objs.size≠s.heap.objs.size+1:=F1 ZCW
 refine⟨by rw[cz g,cy],Z8g,g,j,λ _=>none,(Heap.Ns1.of_empty k).at λ o q=>Zy,λ _=>True.intro,λ y m=>absurd rfl m⟩
theorem xV (g:attributeBase e f env (ZBx)=eval e env)
  (h:wpAny ZF A ZBx (λ o d=>wpAny ZF A (getAttr o f true) Q E d) E s):wpAny ZF A (eval Z72 env) Q E s:=
 Attribute_any_ h (by rw[arm_eval_Attribute,g])
end
inductive yM (K:PySem.W.Frag) (f:Str) (Q:VK) (x:V) (H1:Hp):Prop
 | mk:∀ a C dx fs v,x=.ref a->H1 a=some Z0A->Cls K C->dr K C f->fs.lookup f=some v->Q v H1->yM K f Q x H1
def nh (K:PySem.W.Frag) (ta:TE) (f:Str):TE:=λ σ H Q=>ta σ H λ x H1=>yM K f Q x H1
inductive ye (K:PySem.W.Frag) (f:Str) (D:Ends) (σ:St) (y:V) (x:V) (H2:Hp):Prop
 | mk:∀ a C dx fs,x=.ref a->H2 a=some Z0A->Cls K C->dr K C f->fs.length<1000->D.nx σ (upd H2 a ZDQ)->ye K f D σ y x H2
def z9 (K:PySem.W.Frag) (ta tv:TE) (f:Str):TS:=λ D σ H=>tv σ H λ y H1=>ta σ H1 λ x H2=>ye K f D σ y x H2
section
variable {X:Cx}{o e value:Expr}{f:Str}{pos pos' tpos:Pos}{ta tv:TE}
theorem Al (k:PE X e ta) (j:attributeBase e f X.env (Z0Q)=eval e X.env):PE X Z72 (nh X.K ta f):=by
 intro pins s σ H Q I h
 refine xV j (thn (k pins s σ H _ I h) λ u r z=>?_)
 obtain⟨x,H1,d,p,a,C,dx,fs,v,ex,i,c,n,l,q⟩:=z
 subst ex
 obtain rfl:u=Value.ref a:=p
 exact kn d i c n l λ z y g m=>⟨v,H1,g,m,q⟩
theorem zX (k:ZE6) (m:ZCm) (hs:swapsWith value (some Z4Z) pos.line X.env=pure false):PS X ZBo (z9 X.K ta tv f):=by
 intro pins s σ H D I h
 refine plainObj_wpAny_Assign_Attribute (thn (m pins s σ H _ I h) λ u F ⟨y,H1,d,B,q⟩=>thn (k pins F σ H1 _ d q) λ p G w=>?_) hs
 obtain⟨x,H2,g,z,a,C,dx,fs,ex,j,c,n,l,r⟩:=w
 subst ex
 obtain rfl:p=Value.ref a:=z
 exact qv g j c n l B λ J i=>⟨σ,_,i,r⟩
end
section
variable {X:Cx}{pins:List (Addr×Obj)}{σ:St}{H:Hp}{s:Shared}{A:Around}{E:Value->Shared->Prop}{Q:Value->Shared->Prop}{c:Value}{b:Bool}
inductive jv (K:PySem.W.Frag) (H:Hp):V->Value->Prop where
 | non:jv K H .non (.type "NoneType")
 | bl (x:Bool):jv K H (.bl x) (.type "bool")
 | int (i:Int):jv K H Z08 (.type "int")
 | str (x:Str):jv K H Z6o (.type "str")
 | flt (x:UInt64):jv K H (.flt x) (.type "float")
 | lst {a:Addr} {xs:Z04} (e:H a=some ZQ):jv K H Z_ (.type "list")
 | frz {a:Addr} {o:Obj} {xs:Z04} (e:H a=some (.frz o ZQ)):jv K H Z_ (.type "list")
 | tup {a:Addr} {xs:Z04} (e:H a=some ZU):jv K H Z_ (.type "tuple")
 | dK {a:Addr} {kvs:List (Key×V)} (e:H a=some Z1o):jv K H Z_ (.type "dict")
 | dT {a:Addr} {kvs:List (List Key×V)} (e:H a=some Zl):jv K H Z_ (.type "dict")
 | ins {a C dx:Addr} {fs:List (Str×V)} (e:H a=some Z0A) (cl:Cls K C) (ha:PySem.W.findIn K Z0U "__class__" = some (some (.builtin "object.__class__")))
   (hn:PySem.W.specialIn K (.builtin "object.__class__") "__get__" = some (some (.builtin "getset_descriptor.__get__"))) (htk:PySem.W.takesIn K (.builtin "object.__class__")=some true)
   (hm:PySem.W.mroIn K C (.type "object")=some true):jv K H Z_ Z0U
theorem su {x:V}{u t:Value}(I:Z7) (rx:ZGU) (ty:jv X.K H x t) (e:PySem.W.kitOne X.K t c=some b) (h:∀ tk,Q ZAz { s with toks:=tk }) :
  wpAny Z3 A (call (.builtin "isinstance") [u,c]) Q E s:=by
 cases ty with
 | non=>cases (show u=Value.none from rx);exact Hl PySem.W.kitx_none I.kIn True.intro e (λ z=>nomatch z) h
 | bl y=>cases (show u=Value.bool y from rx);exact Hl PySem.W.kitx_bool I.kIn True.intro e (λ z=>nomatch z) h
 | int i=>obtain⟨t,q⟩:=(show ∃ t,u=Value.int i t from rx);cases q;exact Hl PySem.W.kitx_int I.kIn True.intro e (λ z=>nomatch z) h
 | str y=>obtain⟨t,q⟩:=(show ∃ t,u=Value.str y t from rx);cases q;exact Hl PySem.W.kitx_str I.kIn True.intro e (λ z=>nomatch z) h
 | flt y=>obtain⟨t,q⟩:=(show ∃ t,u=Value.float y t from rx);cases q;exact Hl PySem.W.kitx_float I.kIn True.intro e (λ z=>nomatch z) h
 | @lst a xs ea=>
  cases (show u=Value.ref a from rx)
  obtain⟨_,_,n,_,h1⟩:=(show dm X.prog X.w H s.heap a ZQ from Z6U)
  exact Hl PySem.W.kitx_list I.kIn ZJy e (λ z=>nomatch z) h
 | @frz a ob xs ea=>
  cases (show u=Value.ref a from rx)
  obtain⟨_,_,_,n,_,h1⟩:=(show dm X.prog X.w H s.heap a (.frz ob ZQ) from Z6U)
  exact Hl PySem.W.kitx_list I.kIn ZJy e (λ z=>nomatch z) h
 | @tup a xs ea=>
  cases (show u=Value.ref a from rx)
  obtain⟨_,_,_,p⟩:=(show dm X.prog X.w H s.heap a ZU from Z6U)
  obtain⟨o,h1,h2,_⟩:=p
  exact Hl PySem.W.kitx_tuple I.kIn ⟨o,h1,h2⟩ e (λ z=>nomatch z) h
 | @dK a kvs ea=>
  cases (show u=Value.ref a from rx)
  obtain⟨_,_,vs,_,p⟩:=(show dm X.prog X.w H s.heap a Z1o from Z6U)
  obtain⟨o,es,ep,h1,h2,_⟩:=p
  exact Hl PySem.W.kitx_dict I.kIn ZIF e (λ z=>nomatch z) h
 | @dT a kvs ea=>
  cases (show u=Value.ref a from rx)
  obtain⟨_,_,xs,_,o,es,ep,h1,h2,_⟩:=(show dm X.prog X.w H s.heap a Zl from Z6U)
  exact Hl PySem.W.kitx_dict I.kIn ZIF e (λ z=>nomatch z) h
 | @ins a C dx fs ea cl ha hn htk hm=>
  cases (show u=Value.ref a from rx)
  obtain⟨mA,O,_⟩:=i7 I.hok ea
  obtain⟨od,J,_⟩:=O.look
  exact Hl (PySem.W.kitx_own (cl.get _) cl.hd ha hn htk hm) I.kIn J e (λ z=>nomatch z) h
end
structure eV (k:Nat) (A:Around):Prop where
 hd:A.handled=none
 dp:A.depth+3*k+5<recursionLimit
 un:A.units+16*k+200<cLine
theorem eV.mono (r:eV k A) (h:j<=k):eV j A:=⟨r.hd,by have:=r.dp;lia,by have:=r.un;lia⟩
theorem eV.deeper (r:eV (k+1) A) (env:Env):eV k (A.deeper env):=
 ⟨r.hd,by have:=r.dp;show A.depth+1+3*k+5<_;lia,by have:=r.un;show A.units+3+16*k+200<_;lia⟩
theorem pJ {A:Around}{C:Addr}{us:Zh}{kw:List (Str×Value)}:(A.under (.builtin "type.__call__" ⟨.ref C::us,kw⟩)).depth=A.depth+1:=by
 first|rfl|simp[Around.under,Code.weight,Code.isCreation,Code.isGuard,Code.isCaller,Code.frames,Code.isFrame,guardIds]
theorem pV {A:Around}{C:Addr}{us:Zh}{kw:List (Str×Value)}:(A.under (.builtin "type.__call__" ⟨.ref C::us,kw⟩)).units=A.units+1:=by
 first|rfl|simp[Around.under,Code.cUnits,Code.frames,Code.isFrame]
theorem eV.make (r:eV (k+1) A) (C) (us) (kw):eV k (A.under (.builtin "type.__call__" ⟨.ref C::us,kw⟩)):=
 ⟨r.hd,by have:=r.dp;rw[pJ];lia,by have:=r.un;rw[pV];lia⟩
theorem eV.depth (r:eV k A):A.depth<recursionLimit:=by have:=r.dp;lia
theorem eV.units (r:eV k A):A.units+64<cLine:=by have:=r.un;lia
def lD:TA:=λ _ H Q=>Q [] H
def gg (ta:TE) (tr:TA):TA:=λ σ H Q=>ta σ H λ x H1=>tr σ H1 λ xs H2=>Q (x::xs) H2
section
variable {X:Cx}{e:Expr}{es:List Expr}{te:TE}{t:TA}{pos:Pos}
theorem cC:PA X [] lD:=λ _ _ _ _ H Q I h=>Calls.spliced_nil ZFF
theorem xY (i:Z4M) (j:ZE7) (hs:starEach (e::es) X.env=(false,Z0Q)::starEach es X.env:=by rfl):PA X (e::es) ZJe:=by
 intro pos pins s σ H Q I h
 rw[hs]
 show wpAny _ _ (spliced ((false,Z0Q)::backTo pos (starEach es X.env))) _ _ s
 refine Calls.spliced_cons (thn ZEY λ u p z=>?_)
 obtain⟨x,H1,d,m,k⟩:=z
 exact thn (j pos pins p σ H1 _ d k) λ r q ⟨xs,H2,g,n,l⟩=>⟨x::xs,H2,g,.cons m n,l⟩
def DW (t:TA):TE:=λ σ H Q=>t σ H λ xs H1=>xs.length<=sizeLine/\∀ p,H1 p=none->Q Zs (upd H1 p ZU)
def FE (t:TA):TE:=λ σ H Q=>t σ H λ xs H1=>xs.length<=sizeLine/\∀ p,H1 p=none->Q Zs (upd H1 p ZQ)
theorem eC {l}(h:ZE7):PE X (.Tuple es l pos) (DW t):=by
 intro pins s σ H Q I j
 refine wpAny_Tuple_spliced (thn ZBj λ k d ⟨xs,H1,g,r,z,q⟩=>⟨by rw[<- r.length];exact z,?_⟩)
 have i:H1 d.heap.objs.size=none:=ZKI
 refine⟨Z3x,upd H1 d.heap.objs.size ZU,Z69,rfl,q _ i⟩
 exact⟨z,k,r,⟨_,ZG,rfl,_,rfl⟩⟩
theorem dS (h:ZE7):PE X (.List es pos) (FE t):=by
 intro pins s σ H Q I j
 refine wpAny_List_spliced (thn ZBj λ k d ⟨xs,H1,g,r,z,q⟩=>⟨by rw[<- r.length];exact z,?_⟩)
 have i:H1 d.heap.objs.size=none:=ZKI
 refine⟨Z3x,upd H1 d.heap.objs.size ZQ,Z69,rfl,q _ i⟩
 exact⟨z,k,0,r,ZG⟩
end
noncomputable abbrev Sp:=List V->Hp->VK->XK->Prop
noncomputable abbrev CXT:=List Env->Hp->Shared->XK->Value->Shared->Prop
structure lM (P:Program) (w:World) (K:PySem.W.Frag) (mg:Str->Option Value) (base:Heap) (A:Around) (outer:List Env) (s:Shared) (H:Hp):Prop where
 frames:A.frames=some outer
 mod:Mod K mg base
 bs:∀ b o,base.get? b=some o->s.heap.get? b=some o/\H b=none
 bsz:base.objs.size<=s.heap.objs.size
 jH:s.heap.FunFrames base outer
 frf:∀ b∈frs outer,H b=none
 hok:HOk P w H s.heap
 bare:ZKh
def CE (outer:Z4A) (P:Program) (w:World) (H:Hp) (s:Shared) (Q:VK) (u:Value) (s':Shared):Prop:=
 ∃ v H',s'.os=s.os/\AllBare s'.gens/\Un (frs outer) [] H H' s.heap s'.heap/\HOk P w H' s'.heap/\RelV v u/\Q v H'
def CR (CX:CXT) (outer:Z4A) (P:Program) (w:World) (H:Hp) (s:Shared) (Q:VK) (E:XK) (r:Result) (s':Shared):Prop:=
 match r with
 | .ok (.ret u)=>CE outer P w H s Q u s'
 | .ok _=>False
 | .error e=>CX outer H s E e s'
structure dk (P:Program) (w:World) (K:PySem.W.Frag) (mg:Str->Option Value) (base:Heap) (CX:CXT) (k:Nat) (f:Addr) (fd:FuncData) (ps:List Str) (sp:Sp):Prop where
 len:∀ vs H Q E,sp vs H Q E->vs.length=ps.length
 run:∀ (A:Around) (outer:List Env) (s:Shared) (H:Hp) (args:Args) (us:List Value) (vs:List V) (Q:VK) (E:XK),eV k A->lM P w K mg base A outer s H->BindsTo s fd args (Z7z)->Vals vs us->sp vs H Q E ->
  codeAny ZY A (.call Z06 args) Z58 s
theorem dk.mono {P:Program}{w:World}{K:PySem.W.Frag}{l:Str->Option Value}{base:Heap}{CX:CXT}{j k:Nat}{f:Addr}{i:FuncData}{m:ZT}{sp:Sp}(F:dk P w K l base CX j f i m sp) (h:j<=k) :
  dk P w K l base CX k f i m sp:=⟨F.len,λ A d s H g p q Q E n=>F.run A d s H g p q Q E (n.mono h)⟩
theorem lM.make {P:Program}{w:World}{K:PySem.W.Frag}{g:Str->Option Value}{base:Heap}{A:Around}{d:Z4A}{s:Shared}{H:Hp}(e:lM P w K g base A d s H) (C:Addr) (us:Zh) (kw:List (Str×Value)) :
  lM P w K g base (A.under (.builtin "type.__call__" ⟨.ref C::us,kw⟩)) d s H:=⟨by first|exact e.frames|(simpa [Around.under,Code.envs,Code.isFrame,pushEnvs] using e.frames),e.mod,e.bs,e.bsz,e.jH,e.frf,e.hok,e.bare⟩
section
variable {X:Cx}{pins:List (Addr×Obj)}{σ:St}{H:Hp}{s s':Shared}
theorem Inv.zw (I:Z7):lM X.prog X.w X.K X.mg X.base X.A X.stack s H:=
 ⟨I.ok.frames,I.ok.mod,I.bs,ZHr,I.stack,I.m6,I.hok,I.bare⟩
theorem Inv.after (I:Z7) (h:CE X.stack X.prog X.w H s Q u s'):EP X pins σ Q u s':=by
 obtain⟨v,H',m,i,n,j,r,q⟩:=h
 obtain⟨l,g,d,t,k⟩:=s'
 obtain rfl:k=s.os:=m
 exact⟨v,H',I.call (h':=l) (g':=g) (d':=d) (t':=t) (ch:=[]) n j i (λ b z=>ZFR),r,q⟩
end
def qM (sp:Sp) (dvs:Z04) (E:XK) (t:TA):TE:=λ σ H Q=>t σ H λ vs H1=>sp (vs++dvs) H1 Q E
inductive vI (C:Addr) (m:Str) (sp:Sp) (dvs:List V) (E:XK) (t:TA) (σ:St) (Q:VK) (x:V) (H1:Hp):Prop
 | mk:∀ a dx fs,x=.ref a->H1 a=some (.ins C dx fs)->fs.lookup m=none->(t σ H1 λ vs H2=>sp (x::(vs++dvs)) H2 Q E)->vI C m sp dvs E t σ Q x H1
def lO (C:Addr) (m:Str) (sp:Sp) (dvs:Z04) (E:XK) (ta:TE) (t:TA):TE:=λ σ H Q=>ta σ H λ x H1=>vI C m sp dvs E t σ Q x H1
def BH (C:Addr) (sp:Sp) (dvs:Z04) (E:XK) (t:TA):TE:=λ σ H Q=>t σ H λ vs H1=>∀ x dx,H1 x=none->H1 dx=none->dx≠x ->
 sp (.ref x::(vs++dvs)) (upd (upd H1 dx Z4w) x (.ins C dx [])) (λ v H2=>v=.non/\Q Z2b H2) E
def Binds (K:PySem.W.Frag) (fd:FuncData) (ps:ZT) (ds:Zh):Prop:=
 ∀ (s:Shared) (us:List Value),K.In s.heap->(us++ds).length=ps.length->BindsTo s fd Z4F (ps.zip (us++ds))
theorem Binds.all {K:PySem.W.Frag}{g:FuncData}{d:ZT}(h:∀ us:List Value,us.length=d.length->bindArgs g Z4F=pure (d.zip us)):Binds K g d []:=λ s us _ i=>by
 rw[Gx] at i ⊢
 exact .of_eq (h us i)
def Passes (CX:CXT) (X:Cx) (E:XK):Prop:=∀ (pins:List (Addr×Obj)) (σ:St) (H:Hp) (s:Shared) (e:Value) (s':Shared),Inv X pins σ H s->CX X.stack H s E e s'->X.xe e s'
section
variable {X:Cx}{CX:CXT}{k:Nat}{f C:Addr}{fd:FuncData}{ps:List Str}{sp:Sp}{dvs:List V}{ds:List Value}{E:XK}{x m:Str}{p pos apos:Pos}{e o:Expr}{es:List Expr}{ta:TE}{t:TA}
theorem pM (F:Zz) (q:Z9i) (j:Z1x) (l:Z5c) (y:Z2G)
  (I:Z7) (r:ZC3) (h:sp (vs++dvs) H Q E):wpAny Z3 X.A (call Z06 us) Z09 X.xe s:=by
 have g:Vals (vs++dvs) (us++ds):=r.append l
 have n:(us++ds).length=ps.length:=by rw[<- g.length];exact F.len _ _ _ _ h
 refine IJ (Ip (F.run X.A X.stack s H Z4F (us++ds) (vs++dvs) Q E q I.zw (j s us I.kIn n) g h) λ r s' d=>?_)
 cases r with
 | error e=>exact y pins σ H s e s' I d
 | ok i=>
  cases i with
  | ret u=>exact I.after d
  | next=>exact Z4s
  | brk=>exact Z4s
  | cont=>exact Z4s
theorem cU (F:Zz) (G:Z9i) (z:Z99) (D:X.mg x=some Z06) (B:PySem.W.keepIn X.K Z06=true) (l:Z1x) (n:Z5c) (J:Z2G)
  (j:PA X (e::es) t) (d:(x == ("__debug__" :ZBp))=false:=by decide) (y:starEach (e::es) X.env=(false,Z0Q)::starEach es X.env:=by rfl) (g:(Z07).any (·.1)=false:=by rfl) :
  PE X (.Call Z7o (e::es) [] pos) (qM sp dvs E t):=by
 intro pins s σ H Q I h
 refine HJ (j4 I z D ?_ d)
 refine Jj (h₀:=X.base) I.ok.mod.kin B (thn ZBi λ M L ⟨N,H1,i,r,q⟩=>ZJw) y g
 exact pM F G l n J i r q
theorem cW {pl:ZLi}(he:ZE6) (c:Z6W) (hm:ZKY) (F:Zz) (hr:Z9i) (hb:Z1x) (hd:Z5c) (hx:Z2G) (ha:PA X (e::es) t)
  (hst:starEach (e::es) X.env=(false,Z0Q)::starEach es X.env:=by rfl) (hpl:(Z07).any (·.1)=false:=by rfl)
  (ht:eval (.Call Z1S (e::es) [] pos) X.env=(do
   let ov <- eval o X.env
   standAt apos.atName
   let (f,first) <- holding [ov] Z7j
   callWith pos f first (backTo pos (starEach (e::es) X.env)) Z8G):=by rfl) :
  PE X (.Call Z1S (e::es) [] pos) (lO C m sp dvs E ta t):=by
 intro pins s σ H Q I h
 refine Z3s
 obtain⟨x,H1,I1,rx,a,dx,fs,ex,ea,l,q⟩:=z
 subst ex
 obtain rfl:u=Value.ref a:=rx
 refine ZGJ
 refine Jj (first:=ZKR) (h₀:=X.base) I.ok.mod.kin hm.kp (thn (ha pos pins s1 σ H1 _ I1 q) λ us s2 ⟨vs,H2,I2,r,q2⟩=>⟨I2.kIn,?_⟩) hst hpl
 exact pM (us:=.ref a::us) (vs:=.ref a::vs) F hr hb hd hx I2 (.cons rfl r) q2
theorem cX {pl:ZLi}(he:ZE6) (c:Z6W) (hm:ZKY) (F:Zz) (hr:Z9i) (hb:Z1x) (hd:Z5c) (hx:Z2G)
  (ht:eval ZEm X.env=(do
   let ov <- eval o X.env
   standAt apos.atName
   let (f,first) <- holding [ov] Z7j
   callWith pos f first (backTo pos (starEach [] X.env)) Z8G):=by rfl) :
  PE X ZEm (lO C m sp dvs E ta lD):=by
 intro pins s σ H Q I h
 refine Z3s
 obtain⟨x,H1,I1,rx,a,dx,fs,ex,ea,l,q⟩:=z
 subst ex
 obtain rfl:u=Value.ref a:=rx
 refine ZGJ
 exact PySem.W.callWith_K0 (first:=ZKR) I1.kIn hm.kp (pM (us:=ZKR) (vs:=ZKR) F hr hb hd hx I1 ZID q)
structure Mk (K:PySem.W.Frag) (C f:Addr):Prop where
 makes:PySem.W.makesIn K C=true
 init:PySem.W.findIn K Z0U "__init__" = some Z32
 fn:PySem.W.isFn K Z06=true
 kp:PySem.W.keepIn K Z0U=true
theorem vc (M:Mk X.K C f) (F:Zz) (D:eV (k+1) X.A) (y:Z1x) (z:Z5c)
  (G:Z2G) (I:Z7) (r:ZC3)
  (h:∀ x dx,H x=none->H dx=none->dx≠x->sp (.ref x::(vs++dvs)) Z6y (λ v H2=>v=.non/\Q Z2b H2) E) :
  wpAny Z3 X.A (call Z0U us) Z09 X.xe s:=by
 have i:=h (s.heap.objs.size+1) s.heap.objs.size ZHS Z1p (F1 ZCW)
 have g:=ZHB
 have j:Vals (V.ref (s.heap.objs.size+1)::(vs++dvs)) (Value.ref (s.heap.objs.size+1)::(us++ds)):=.cons rfl (r.append z)
 have B:(Value.ref (s.heap.objs.size+1)::us++ds).length=ps.length:=by
  have e:=j.length
  rw[F.len _ _ _ _ i] at e
  exact e.symm
 refine IJ (uE (f:=f) I.kIn M.makes M.init (HK.mp M.fn) (Ip (F.run _ X.stack _ _ ⟨Value.ref (s.heap.objs.size+1)::us,[]⟩ (Value.ref (s.heap.objs.size+1)::(us++ds)) _ _ E (D.make C us [])
  (g.zw.make C us []) (y _ (Value.ref (s.heap.objs.size+1)::us) g.kIn B) j i) λ r s' d=>?_))
 cases r with
 | error e=>exact G pins σ _ _ e s' g d
 | ok q=>
  cases q with
  | ret u=>
   obtain⟨v,H',l,L,n,J⟩:=g.after d
   subst n
   exact⟨L,⟨V.ref (s.heap.objs.size+1),H',l,rfl,J⟩⟩
  | next=>exact Z4s
  | brk=>exact Z4s
  | cont=>exact Z4s
theorem fI (M:Mk X.K C f) (F:Zz) (D:eV (k+1) X.A) (z:Z99) (B:X.mg x=some Z0U) (l:Z1x) (n:Z5c) (G:Z2G)
  (j:PA X (e::es) t) (d:(x == ("__debug__" :ZBp))=false:=by decide) (y:starEach (e::es) X.env=(false,Z0Q)::starEach es X.env:=by rfl) (g:(Z07).any (·.1)=false:=by rfl) :
  PE X (.Call Z7o (e::es) [] pos) (BH C sp dvs E t):=by
 intro pins s σ H Q I h
 refine HJ (j4 I z B ?_ d)
 refine Jj (h₀:=X.base) I.ok.mod.kin M.kp (thn ZBi λ L J ⟨N,H1,i,r,q⟩=>ZJw) y g
 exact vc M F D l n G i r q
end
def PK (X:Cx) (kws:Z96) (t:TA):Prop:=
 ∀ (pos:Pos) (pins:List (Addr×Obj)) (s:Shared) (σ:St) (H:Hp) (Q:List V->Hp->Prop),Inv X pins σ H s->t σ H Q->wpAny Z3 X.A (evalAll ((Z7A).map (·.2))) ZI6 X.xe s
section
variable {X:Cx}{CX:CXT}{k:Nat}{f C:Addr}{fd:FuncData}{ps ks:List Str}{sp:Sp}{E:XK}{x m:Str}{p pos apos kpos:Pos}{e o:Expr}{es:List Expr}{kws:List Keyword}{te ta:TE}{t tk:TA}{nm:Option Str}
theorem ui:PK X [] lD:=λ _ _ _ _ H Q I h=>wpAny_evalAll_nil ZFF
theorem rZ (ha:Z4M) (hr:PK X kws t):PK X (⟨nm,e,kpos⟩::kws) ZJe:=by
 intro pos pins s σ H Q I h
 show wpAny _ _ (evalAll ((do let v <- eval e X.env;standAt pos;pure v)::(Z7A).map (·.2))) _ _ s
 refine wpAny_evalAll_cons (FI (thn ZDe λ u s1 ⟨x,H1,I1,r1,q1⟩=>FI (IA Zi)))
 exact thn (hr pos pins s1 σ H1 _ I1 q1) λ us s2 ⟨xs,H2,I2,r2,q2⟩=>⟨x::xs,H2,I2,.cons r1 r2,q2⟩
variable {g:List Value->List Value->List Value}{gV:List V->List V->List V}
end
structure cM (N P:List Str) (sc:Scope):Prop where
 kind:sc.kind=.function
 co:sc.isCoroutine=false
 gen:sc.isGenerator=false
 nd:N.Nodup
 pre:N.take P.length=P
 par:∀ x∈P,sc.names.lookup x=some .local\/sc.names.lookup x=some .cell
 nofree:∀ y∈sc.names,y.2≠.free
theorem mB {i:Str->Option NameKind}{x:Str}:∀ {d:List (Str×Value)}{m:Str->Option Value},(∀ v,(x,v)∉d)->bindL i d m x=m x
 | [],_,_=>rfl
 | (n,v)::r,m,h=>by
  unfold bindL
  rw[mB λ w j=>h w ZGh]
  split
  ·have:x≠n:=by rintro rfl;exact h v FZ
   simp[this]
  ·rfl
theorem lU {i:Str->Option NameKind}{x:Str}:∀ {d:List (Str×Value)}{m:Str->Option Value},(∀ v,(x,v)∉d)->bindC i d m x=m x
 | [],_,_=>rfl
 | (n,v)::r,m,h=>by
  unfold bindC
  rw[lU λ w j=>h w ZGh]
  split
  ·rfl
  ·have:x≠n:=by rintro rfl;exact h v FZ
   simp[this]
theorem jq {d:Str->Option NameKind}{x:Str}{v:Value}:∀ {P:List Str}{vs:List Value}{i:Nat}{m:Str->Option Value},P.Nodup->P[i]? = some x->vs[i]? = some v->d x=some .local ->
  bindL d (P.zip vs) m x=some v
 | [],_,_,_,_,h,_,_=>by simp at h
 | _::_,[],_,_,_,_,h,_=>by simp at h
 | p::P,w::vs,0,m,nd,h1,h2,hk=>by
  simp at h1 h2;subst h1;subst h2
  show bindL d ((p,w)::P.zip vs) m p=_
  unfold bindL
  rw[mB λ v j=>ZI3,FX hk]
  simp
 | p::P,w::vs,i+1,m,nd,h1,h2,hk=>by
  show bindL d ((p,w)::P.zip vs) m x=_
  unfold bindL
  exact jq (i:=i) (Z9m).2 (by simpa using h1) (by simpa using h2) hk
theorem l9 {d:Str->Option NameKind}{x:Str}{v:Value}:∀ {P:List Str}{vs:List Value}{i:Nat}{m:Str->Option Value},P.Nodup->P[i]? = some x->vs[i]? = some v->d x≠some .local ->
  bindC d (P.zip vs) m x=some v
 | [],_,_,_,_,h,_,_=>by simp at h
 | _::_,[],_,_,_,_,h,_=>by simp at h
 | p::P,w::vs,0,m,nd,h1,h2,hk=>by
  simp at h1 h2;subst h1;subst h2
  show bindC d ((p,w)::P.zip vs) m p=_
  unfold bindC
  rw[lU λ v j=>ZI3,FV hk]
  simp
 | p::P,w::vs,i+1,m,nd,h1,h2,hk=>by
  show bindC d ((p,w)::P.zip vs) m x=_
  unfold bindC
  exact l9 (i:=i) (Z9m).2 (by simpa using h1) (by simpa using h2) hk
noncomputable def start (N:ZT) (vs:Z04):St:=vs.map some++List.replicate (N.length-vs.length) none
noncomputable def mG (CX:CXT) (P:Program) (w:World) (K:PySem.W.Frag) (mg:Str->Option Value) (base:Heap) (N:ZT) (qual:Str) (scope:Scope) (f:Addr) (cd:Value) (A:Around) (outer:Z4A) (s:Shared) (H:Hp) (E:XK):Cx where
 prog:=P
 w:=w
 K:=K
 mg:=mg
 base:=base
 A:=A.deeper Z0D
 N:=N
 s₀:=s
 H₀:=H
 env:=Z0D
 outer:=outer
 stack:=envOfC qual scope s.heap.objs.size f cd::outer
 ex:=[]
 calm:=true
 fn:=λ _=>true
 pn:=[]
 xe:=λ e s'=>wpAny ZY (A.deeper Z0D) (leaving Z0D e) Z8P Z7r s'
theorem kX {sc:Scope}{n:Nat}{x:Str}(h:sc.names.lookup x=some .cell):∃ c,(cellsFrom n sc.names []).lookup x=some c:=by
 have q:=JB sc.names n [] Z5z
 exact Option.isSome_iff_exists.mp q
theorem md {CX:CXT}{P:Program}{w:World}{K:PySem.W.Frag}{mg:Str->Option Value}{base:Heap}{N ps:ZT}{qual:Str}{scope:Scope}{f:Addr}{cd:Value}{A:Around}{outer:Z4A}{s s1:Shared}{H:Hp}{E:XK}{us:Zh}{vs:Z04}
  (S:ZLX) (hd:A.handled=none) (e0:Z9g) (hl:vs.length=ps.length) (r:ZC3)
  (x:InCallC s s.heap.objs.size (bindL (Z0D).kindOf Z7z λ _=>none) (cellsFrom (s.heap.objs.size+1) scope.names []) (bindC (Z0D).kindOf Z7z λ _=>none) s1) :
  Inv Z4K [] Z2B H s1:=by
 have hpl:ps.length<=N.length:=by have:=congrArg List.length S.pre;rw[Gu] at this;lia
 obtain⟨h1,tk,rfl,hk⟩:=x.done
 have noA:∀ b:Addr,b∉(Z4K).ex:=λ b z=>absurd (show b∈([]:Zq) from z) Z8
 refine⟨⟨e0.mod,S.kind,rfl,rfl,Z9,λ y z c h1 h2=>?_,λ y hy=>?_,λ y c _ h=>?_,λ _=>hd,Z9B,ZD3,λ b z=>Z5v,e0.bs,e0.bsz,λ b _ _=>noA b,λ b z=>Z5v,e0.jH,e0.frf⟩,
  rfl,e0.bare,Un.kept hk,⟨_,x.toInCall.ns,λ i y v h1 h2 h3=>?_⟩,λ y c h=>⟨_,x.cell y c h⟩,ZIc,λ y c h=>?_,λ p hp=>absurd (show p∈([]:List (Addr×Obj)) from hp) Z8,ZKM,?_⟩
 ·exact name_of_addr x.apart (GO h1) (GO h2)
 ·have hy:scope.names.lookup y=some .cell\/scope.names.lookup y=some .free:=hy
  rcases hy with hy|hy
  ·exact kX hy
  ·exact absurd rfl (S.nofree _ (GO hy))
 ·exact ZCq
 ·have hi:i<vs.length:=by
   unfold start at h2
   by_cases hi:i<vs.length
   ·exact hi
   ·rw[Gh (by simpa using hi)] at h2
    rw[IM] at h2
    split at h2<;>cases h2
  have ha:vs[i]? = some v:=by
   unfold start at h2
   rw[Gw (by simpa using hi),FP] at h2
   cases e:vs[i]? with
   | none=>rw[e] at h2;cases h2
   | some a=>rw[e] at h2;cases h2;rfl
  obtain⟨u,hu,rv⟩:=r.get ha
  have hp:ps[i]? = some y:=by
   rw[<- S.pre,IE Z1];exact h1
  have ndP:ps.Nodup:=by rw[<- S.pre];exact ZE2
  refine⟨u,rv,?_⟩
  rcases S.par y (FT hp) with k|k
  ·exact ZA_
  ·obtain⟨c,e⟩:=kX (n:=s.heap.objs.size+1) k
   refine .inr ⟨.inl k,c,e,?_⟩
   have q:=x.cell y c e
   rw[l9 ndP hp hu (by show scope.names.lookup y≠_;rw[k];decide)] at q
   exact q
 ·exact .inl (e0.hok.fresh ZCq)
 ·unfold start
  show _=N.length
  rw[FQ,FO,HN]
  lia
theorem Cn {CX:CXT}{P:Program}{w:World}{K:PySem.W.Frag}{U:Str->Option Value}{base:Heap}{k:Nat}{f:Addr}{name qual:Str}{l:Arguments}{z:Z3r}{d:Scope}{dV kV L pm j ct oc:Value}{an od:ZAK}
  {a0:Z48}{N ps:ZT}{sp:Sp}(lk:K.lookup f=some ⟨oc,od,.func Z4n,a0⟩) (W:PySem.W.codeIn K j qual=true) (S:cM N ps d)
  (T:∀ vs H Q E,sp vs H Q E->vs.length=ps.length)
  (D:∀ (A:Around) (i:List Env) (s:Shared) (H:Hp) (vs:List V) (Q:VK) (E:XK),eV k (A.deeper (envOfC qual d s.heap.objs.size f j))->sp vs H Q E ->
   ∃ t,PSs Z1j z t/\t { nx:=λ _ H'=>ZIw,rt:=Q } Z2B H) :
  dk P w K U base CX (k+1) f Z4n ps sp:=by
 refine⟨T,λ A i s H a1 us vs Q E Y M hb r R=>?_⟩
 have hl:=T _ _ _ _ R
 have KX:Z2d:=Z6A
 have Z:s.heap.NoLimit:=Z5R
 have F:∀ y∈ps.zip us,d.names.lookup y.1=some .local\/(d.names.lookup y.1=some .cell/\((cellsFrom (s.heap.objs.size+1) d.names []).lookup y.1).isSome=true):=λ⟨n,v⟩ hy=>by
  rcases S.par n (Jf hy).1 with q|q
  ·exact ZJT
  ·exact Z9E
 refine Z1i
 refine wpAny_newFunctionEnv_cells S.kind F λ a2 he s1 x=>?_
 subst he
 refine⟨Z.keeps x.toInCall.keep,ZA8⟩
 obtain⟨t,ht,hq⟩:=D A i s H vs Q E (Y.deeper _) R
 have I:Inv Z1j [] Z2B H s1:=ZGG
 refine GL (ht [] s1 Z2B H _ I hq) (λ fl s' G=>?_) λ e s' G=>G
 have O:∀ {B:St} {H':Hp} {v:V} {u:Value},Inv Z1j [] B H' s'->RelV v u->Q v H'->CE i P w H s Q u s':=
  λ{B H' v u} J rv q=>Z67
 cases fl with
 | ret u=>
  obtain⟨v,B,H',J,rv,q⟩:=G
  exact O J rv q
 | next=>
  obtain⟨B,H',J,q⟩:=G
  exact O (v:=V.non) (u:=Value.none) J rfl q
 | brk=>
  obtain⟨_,_,_,q⟩:=G
  exact Z3w
 | cont=>
  obtain⟨_,_,_,q⟩:=G
  exact Z3w
section
variable {X:Cx}{x:Str}{p pos:Pos}{e:Expr}{es:List Expr}{t:TA}{id T:String}{r:List V->Hp->VK->Prop}
def tCB (r:List V->Hp->VK->Prop) (t:TA):TE:=λ σ H Q=>t σ H λ vs H1=>r vs H1 Q
theorem dB (n:eG X Z14 r) (y:Z99) (z:X.mg x=none) (D:bootBuiltins x=some Z14) (l:PA X (e::es) t) (B:x ≠ "__name__":=by decide) (d:(x == ("__debug__" :ZBp))=false:=by decide)
  (q:starEach (e::es) X.env=(false,Z0Q)::starEach es X.env:=by rfl) (i:(Z07).any (·.1)=false:=by rfl):PE X (.Call Z7o (e::es) [] pos) (tCB r t):=by
 intro pins s σ H Q I h
 refine ZDW
 exact PyProof.Rows.callWith_builtin1 (thn ZBh λ L J ⟨M,H1,j,G,F⟩=>ZB3) q i
theorem dP (n:eG X Z2Z r) (y:Z99) (z:X.mg x=none) (D:bootBuiltins x=some Z2Z) (l:PA X (e::es) t) (B:x ≠ "__name__":=by decide) (d:(x == ("__debug__" :ZBp))=false:=by decide)
  (q:starEach (e::es) X.env=(false,Z0Q)::starEach es X.env:=by rfl) (i:(Z07).any (·.1)=false:=by rfl):PE X (.Call Z7o (e::es) [] pos) (tCB r t):=by
 intro pins s σ H Q I h
 refine ZDW
 exact HF (thn ZBh λ L J ⟨M,H1,j,G,F⟩=>ZB3) q i
end
end L2
namespace HT
open PySem PyProof.Rows
section
open PySem.SeqAt
open PySem.AutoSeq1 (wpAny_loadPart')
open PySem.MeetsSeq PySem.MeetsSeq2 PySem.MeetsSeq3
end
section
variable {prog:Program}{w:World}{A:Around}{E:Value->Shared->Prop}{s:Shared}
noncomputable def sIx (n d:Nat):Option Int->Nat
 | none=>d
 | some v=>if v<0 then (v+(n:Int)).toNat else min v.toNat n
theorem xk (n d k:Nat):sIx n d (some (k:Int))=min k n:=by
 show (if (k:Int)<0 then ((k:Int)+(n:Int)).toNat else min (k:Int).toNat n)=min k n
 rw[ZCu,GB]
end
end HT
namespace L2
open PySem PySem.Spec PyProof.Rows
noncomputable abbrev TO:=St->Hp->(Option Int->Hp->Prop)->Prop
def PO (X:Cx) (e:Option Expr) (t:TO):Prop:=
 ∀ (pins:List (Addr×Obj)) (s:Shared) (σ:St) (H:Hp) (Q:Option Int->Hp->Prop),Inv X pins σ H s->t σ H Q ->
  wpAny Z3 X.A (evalPart e X.env) (λ u s'=>∃ o H',Inv X pins σ H' s'/\IsPart u o/\Q o H') X.xe s
def xr:TO:=λ _ H Q=>Q none H
inductive uh (Q:Option Int->Hp->Prop) (x:V) (H1:Hp):Prop
 | mk:∀ i,x=.int i->Q (some i) H1->uh Q x H1
def CU (t:TE):TO:=λ σ H Q=>t σ H λ x H1=>uh Q x H1
section
variable {X:Cx}{e:Expr}{te:TE}{lo hi:Option Expr}{tl th:TO}{pos p2:Pos}
theorem qK:PO X none xr:=by
 intro pins s σ H Q I h
 rw[evalPart_none]
 exact FN ⟨none,H,I,.none,h⟩
theorem qR (h:Z4M):PO X (some e) (CU te):=by
 intro pins s σ H Q I j
 rw[evalPart_some]
 refine thn (h pins s σ H _ I j) λ u y z=>?_
 obtain⟨x,H1,d,n,l⟩:=z
 obtain⟨i,rfl,q⟩:=l
 obtain⟨t,rfl⟩:=n
 exact⟨some i,H1,d,Z9n,q⟩
def SlR (X:Cx) (r:V->Option Int->Option Int->Hp->VK->Prop):Prop:=
 ∀ (pins:List (Addr×Obj)) (s:Shared) (σ:St) (H:Hp) (x:V) (v vl vu:Value) (lo hi:Option Int) (sl:Addr) (Q:VK),Inv X pins σ H s->RelV x v->s.heap.IsSliceOf sl vl vu .none->IsPart vl lo->IsPart vu hi->r x lo hi H Q ->
  ∃ T id,typeLookup Z2Z "__getitem__" = pure (some Z14)/\s.TypeIs v T/\wpAny Z3 X.A (getItem v (.ref sl)) Z09 X.xe s
def tSl (r:V->Option Int->Option Int->Hp->VK->Prop) (te:TE) (tl th:TO):TE:=λ σ H Q=>te σ H λ x H1=>tl σ H1 λ l H2=>th σ H2 λ u H3=>r x l u H3 Q
theorem nN (M:SlR X r) (G:Z4M) (L:PO X lo tl) (O:PO X hi th):PE X (.Subscript e ZDh pos) (tSl r te tl th):=by
 intro pins s σ H Q I h
 refine Subscript_ (thn ZEg λ v Z z=>?_)
 obtain⟨x,H1,y,Y,U⟩:=z
 refine wpAny_Slice (thn (L pins Z σ H1 _ y U) λ i s2 ⟨l,H2,z,R,V⟩=>thn (O pins s2 σ H2 _ z V) λ j d w=>?_)
 obtain⟨u,n,B,S,W⟩:=w
 rw[evalPart_none]
 refine Z5h
 have D:Inv X pins σ n { d with heap:=d.heap.push { cls:=.type "slice",data:=.fields #[i,j,.none] } }:=B.kept (t':=d.toks) λ b ob q=>Zy
 obtain⟨T,id,F,N,J⟩:=M pins { d with heap:=d.heap.push { cls:=.type "slice",data:=.fields #[i,j,.none] } } σ n x v i j l u d.heap.objs.size Q D Y (Heap.IsSliceOf.new ..) R S W
 show wpAny Z3 X.A (subscriptTail e ZDh v Z3x) Z09 X.xe { d with heap:=d.heap.push { cls:=.type "slice",data:=.fields #[i,j,.none] } }
 exact tail_any (ops:=[Z3x,v]) N F J (by with_unfolding_all rfl)
noncomputable def mN (xs:Z04) (lo hi:ZH8):Z04:=(xs.drop ZDK).take (HT.sIx xs.length xs.length hi-HT.sIx xs.length 0 lo)
theorem oX (xs) (lo hi):(ZFL).length<=xs.length:=by
 unfold mN
 rw[Gu,List.length_drop]
 lia
end
noncomputable def ixN (n:Nat) (i:Int):Z5K:=if 0<=i then (if i<n then some i.toNat else none) else if -(n:Int)<=i then some (i+n).toNat else none
noncomputable def atI {α:Type}(xs:List α) (i:Int):Option α:=(ixN xs.length i).bind λ j=>xs[j]?
theorem qV (h:ixN n i=some j):seqIndex? i n=some j/\j<n /\ -(n:Int)<=i/\i<n:=by
 unfold ixN at h
 by_cases d:0<=i
 ·rw[FX d] at h
  by_cases h1:i<n
  ·rw[FX h1] at h
   have e:i.toNat=j:=Z4P
   exact⟨by rw[seqIndex_of d h1,e],Z1,Z1,h1⟩
  ·rw[FV h1] at h;cases h
 ·rw[FV d] at h
  by_cases h1 : -(n:Int)<=i
  ·rw[FX h1] at h
   have e:(i+n).toNat=j:=Z4P
   exact⟨by rw[seqIndex_neg Z1 h1,e],Z1,h1,Z1⟩
  ·rw[FV h1] at h;cases h
theorem rA (h:atI xs i=some v):∃ j,seqIndex? i xs.length=some j/\xs[j]? = some v/\j<xs.length /\ -(xs.length:Int)<=i/\i<xs.length:=by
 unfold atI at h
 cases e:ixN xs.length i with
 | none=>rw[e] at h;cases h
 | some j=>
  rw[e] at h
  obtain⟨h1,h2,d,l⟩:=qV e
  exact⟨j,h1,h,h2,d,l⟩
theorem dW {d:Type}{xs:List d}{j:Nat}{v:d}(h:xs[j]? = some v):atI xs (j:Int)=some v:=by
 have i:j<xs.length:=Z2D
 have e:ixN xs.length (j:Int)=some j:=by
  unfold ixN
  rw[Z9V,Z9V];simp
 unfold atI;rw[e];exact h
theorem ij (xs) (v:α):atI (xs++[v]) (-1)=some v:=by
 have d:(xs++[v]).length=xs.length+1:=Ze
 have e:ixN (xs++[v]).length (-1)=some xs.length:=by
  unfold ixN
  rw[d,ZEF,Z9V]
  congr 1
  lia
 unfold atI
 rw[e]
 show (xs++[v])[xs.length]? = some v
 simp
def xN (b:Expr):Prop:=∀ o i,subscripted b false o i=operate [o,i] ZMX
def IxR (X:Cx) (r:R2):Prop:=
 ∀ (value slice:Expr) (pins:List (Addr×Obj)) (s:Shared) (σ:St) (H:Hp) (x y:V) (v u:Value) (Q:VK),Inv X pins σ H s->RelV x v->RelV y u->r x y H Q ->
  subscripted slice false v u=operate [v,u] (getItem v u)->wpAny Z3 X.A (subscriptTail value slice v u) Z09 X.xe s
def MtR (X:Cx) (id:String) (r:V->List V->Hp->VK->Prop):Prop:=
 ∀ (pins:List (Addr×Obj)) (s:Shared) (σ:St) (H:Hp) (x:V) (xs:List V) (v:Value) (us:List Value) (Q:VK),Inv X pins σ H s->RelV x v->Vals xs us->r x xs H Q ->
  wpAny Z3 X.A (call Z14 (v::us)) Z09 X.xe s
section
variable {X:Cx}{a b:Expr}{ta tb:TE}{pos:Pos}
theorem cY {r:R2}(l:IxR X r) (i:Z3B) (j:ZAJ) (hs:xN b):PE X (.Subscript a b pos) Z8A:=by
 intro pins s σ H Q I h
 exact Subscript_ (zp i j I h λ v u B x y H2 d n z q=>l a b pins B σ H2 x y v u Q d n z q (hs _ _))
inductive jT (K:PySem.W.Frag) (x:V) (y:V) (H:Hp) (Q:VK):Prop
 | mk:∀ p xs i v,x=.ref p->y=.int i->SqL K H p xs->atI xs i=some v->Q v H->jT K x y H Q
inductive x8 (K:PySem.W.Frag) (x:V) (y:V) (H:Hp) (Q:VK):Prop
 | mk:∀ p xs i v,x=.ref p->y=.int i->SqT K H p xs->atI xs i=some v->Q v H->x8 K x y H Q
theorem xy:IxR X (jT X.K):=by
 intro value F pins s σ H x y v u Q I U V h L
 obtain⟨p,xs,i,z,rfl,rfl,S,O,q⟩:=h
 cases U
 obtain⟨t,rfl⟩:=V
 obtain⟨n,r,B,Z⟩:=I.list S
 obtain⟨j,h1,h2,W,M,N⟩:=rA O
 obtain⟨w,G,D⟩:=r.get h2
 have R:=r.length
 have Y:=ko
 have d:ZGW:=⟨z,H,I,D,q⟩
 by_cases J:0<=i
 ·have l:i.toNat=j:=by
   rw[seqIndex_of J N] at h1
   exact Z3C
  exact item_listR B.isList J Z1 (by rw[l];simpa using G) d L
 ·have l:(i+(n.toArray.size:Int)).toNat=j:=by
   rw[seqIndex_neg Z1 M] at h1
   rw[F7,<- R]
   exact Z3C
  exact subscriptTail_builtinR (x:=w) B.isList.typeIs slot_list_getitem.lookup
   (wpAny_getItem_list_neg (Q:=λ r s'=>r=w/\EP X pins σ Q r s') B.isList Z1 (by rw[F7]<;>lia) Z1 (by rw[l];simpa using G) ⟨rfl,d⟩) L
theorem zy:IxR X (x8 X.K):=by
 intro value n pins s σ H x y v u Q I N O h L
 obtain⟨p,xs,i,z,rfl,rfl,J,F,q⟩:=h
 cases N
 obtain⟨t,rfl⟩:=O
 obtain⟨M,r,B,W⟩:=I.tuple J
 obtain⟨j,h1,h2,R,S,U⟩:=rA F
 obtain⟨w,D,l⟩:=r.get h2
 have G:=r.length
 have V:=ko
 have d:ZGW:=⟨z,H,I,l,q⟩
 exact subscriptTail_builtinR (x:=w) B.typeIs slot_tuple_getitem.lookup
  (getItem_tuple (j:=j) (Q:=λ r s'=>r=w/\EP X pins σ Q r s') B Z1 Z1 (by rw[F7,<- G];exact h1) (by simpa using D) ⟨rfl,d⟩) L
theorem pK (its:Zh) (n j:Nat) (u:Value):Obj.mapSeq (·.setIfInBounds j u) { cls:=.type "list",data:=Z1A}={ cls:=.type "list",data:=.seq (its.set j u).toArray n }:=by
 simp[Obj.mapSeq]
theorem Inv.lst (I:Z7) (h:H p=some ZQ) :
  ∃ (its:List Value) (n:Nat),Vals xs its/\s.heap.get? p=some { cls:=.type "list",data:=Z1A}/\xs.length<=sizeLine:=by
 obtain⟨z,its,n,r,e⟩:=I.hok p _ h
 exact⟨its,n,r,e,z⟩
theorem Inv.Ap {pins:List (Addr×Obj)}{σ:St}{H:Hp}{s:Shared}{p:Addr}{xs ys:Z04}{its its':Zh}{n d:Nat}{f:Obj->Obj}(I:Z7) (h:H p=some ZQ)
  (l:s.heap.get? p=some { cls:=.type "list",data:=Z1A}) (i:f { cls:=.type "list",data:=Z1A}={ cls:=.type "list",data:=ZF1}) (r:Vals ys its') (hz:ys.length<=sizeLine) (t:Nat) :
  Inv X pins σ (upd H p Zb) { s with heap:=ZGp,toks:=t }:=by
 have e:(ZGp).get? p=some { cls:=.type "list",data:=ZF1}:=by
  rw[Heap.get?_update_self f l (by rw[i]<;>rfl),i]
 refine I.write (x:=p) (e:=p) (by rw[h];trivial) Z0N (λ b u j q=>(Heap.get?_update_other _ _ (Ne.symm j)).trans q) Z2y ?_
 exact⟨hz,its',d,r,e⟩
inductive y6 (o:V) (i:V) (v:V) (H:Hp) (Q:Hp->Prop):Prop
 | mk:∀ p xs k j,o=.ref p->i=.int k->H p=some ZQ->ixN xs.length k=some j->Q Z9_->y6 o i v H Q
theorem set_list:AQ X y6:=by
 intro pins s σ H o i v V U u Q I O N R h
 obtain⟨p,xs,k,j,rfl,rfl,J,L,q⟩:=h
 cases O
 obtain⟨t,rfl⟩:=N
 obtain⟨d,n,r,z,M⟩:=I.lst J
 obtain⟨h1,h2,F,G⟩:=qV L
 have y:=r.length
 have S:=ko
 have B:Inv X pins σ Z9_ { s with heap:=s.heap.update p (Obj.mapSeq (·.setIfInBounds j u)) }:=
  I.Ap J z (pK d n j u) (r.set R j) (by rw[Hm];exact M) s.toks
 by_cases D:0<=k
 ·have l:k.toNat=j:=by
   rw[seqIndex_of D G] at h1
   exact Z3C
  exact PySem.W.ki_setAt z D Z1 (by rw[F7,<- y];exact G) (by rw[l];exact⟨_,B,q⟩)
 ·have l:(k+(d.toArray.size:Int)).toNat=j:=by
   rw[seqIndex_neg Z1 F] at h1
   rw[F7,<- y]
   exact Z3C
  exact PySem.W.ki_setBack z Z1 (by rw[F7,<- y];exact F) Z1 (by rw[l];exact⟨_,B,q⟩)
theorem mW (lo hi) (n):(Z5D).1=((HT.sIx n 0 lo:Nat):Int)/\(Z5D).2.1=((HT.sIx n n hi:Nat):Int)/\(Z5D).2.2=1:=by
 refine⟨?_,?_,rfl⟩
 ·cases lo with
  | none=>simp[sliceBounds,HT.sIx]
  | some i=>
   simp only[sliceBounds,HT.sIx,Option.getD_none,show (1:Int)>0 by decide,IG]
   by_cases h:i<0
   ·simp only[h,IG]<;>lia
   ·simp only[h,Hb]<;>lia
 ·cases hi with
  | none=>simp[sliceBounds,HT.sIx]
  | some i=>
   simp only[sliceBounds,HT.sIx,Option.getD_none,show (1:Int)>0 by decide,IG]
   by_cases h:i<0
   ·simp only[h,IG]<;>lia
   ·simp only[h,Hb]<;>lia
theorem lJ (its:Zh) (lo hi:ZH8):slicePick its.toArray lo hi none=((its.drop (HT.sIx its.length 0 lo)).take (HT.sIx its.length its.length hi-HT.sIx its.length 0 lo)).toArray:=by
 obtain⟨h1,h2,d⟩:=mW lo hi its.toArray.size
 unfold slicePick
 rw[h1,h2,d]
 simp only[sliceRange_one,pick_run,F7]<;>rfl
inductive zJ (K:PySem.W.Frag) (x:V) (lo:Option Int) (hi:Option Int) (H:Hp) (Q:VK):Prop
 | mk:∀ a xs,x=.ref a->SqL K H a xs->(∀ p,H p=none->Q Zs (upd H p (.lst ZFL)))->zJ K x lo hi H Q
theorem wV:SlR X (zJ X.K):=by
 intro pins s σ H x v J L lo hi G Q I D j z B h
 obtain⟨a,xs,rfl,l,q⟩:=h
 cases D
 obtain⟨y,r,i,n⟩:=I.list l
 have d:=r.length
 refine⟨"list",_,slot_list_getitem.lookup,i.isList.typeIs,?_⟩
 refine wpAny_getItem_list_slice i.isList j z B .none Z8 ?_ (by rw[F7]<;>lia)
 rw[lJ,<- d]
 refine⟨ZD,_,I.laid (t':=s.toks) (o:=.lst ZFL) (λ b F q=>Zy) Z9 ?_,rfl,q _ Z1p⟩
 exact⟨Gd (oX xs lo hi) n,_,0,(r.drop ZDK).take (HT.sIx xs.length xs.length hi-HT.sIx xs.length 0 lo),ZG⟩
noncomputable def gU:V->Bool
 | .non=>true
 | .bl _=>true
 | .int _=>true
 | .str _=>true
 | _=>false
noncomputable def eqV:V->V->Bool
 | .non,.non=>true
 | .bl a,.bl b=>a == b
 | .bl a,.int b=>(if a then 1 else 0) == b
 | .int a,.bl b=>a == (if b then 1 else 0)
 | .int a,.int b=>a == b
 | .str a,.str b=>a == b
 | _,_=>false
theorem Av {A:Around}{s:Shared}{y x:V}{u v:Value}(ry:Z3c) (rx:ZLj) (fy:gU y=true) (fx:gU x=true):SeqAt.EqAt A s u v (eqV y x):=by
 cases y with
 | non=>
  cases ry
  cases x with
  | non=>cases rx;exact SeqAt.EqAt.same _
  | bl b=>cases rx;exact SeqAt.EqAt.none_bool b
  | int b=>obtain⟨t,rfl⟩:=rx;exact SeqAt.EqAt.none_int b t
  | str b=>obtain⟨t,rfl⟩:=rx;exact SeqAt.EqAt.none_str b t
  | _=>exact absurd (show false=true from fx) Gb
 | bl a=>
  cases ry
  cases x with
  | non=>cases rx;exact SeqAt.EqAt.bool_none a
  | bl b=>cases rx;exact SeqAt.EqAt.bool_bool a b
  | int b=>obtain⟨t,rfl⟩:=rx;exact SeqAt.EqAt.bool_int a b t
  | str b=>obtain⟨t,rfl⟩:=rx;exact SeqAt.EqAt.bool_str a b t
  | _=>exact absurd (show false=true from fx) Gb
 | int a=>
  obtain⟨t',rfl⟩:=ry
  cases x with
  | non=>cases rx;exact SeqAt.EqAt.int_none a t'
  | bl b=>cases rx;exact SeqAt.EqAt.int_bool a t' b
  | int b=>obtain⟨t,rfl⟩:=rx;exact SeqAt.EqAt.int_int a t' b t
  | str b=>obtain⟨t,rfl⟩:=rx;exact SeqAt.EqAt.int_str a t' b t
  | _=>exact absurd (show false=true from fx) Gb
 | str a=>
  obtain⟨t',rfl⟩:=ry
  cases x with
  | non=>cases rx;exact SeqAt.EqAt.str_none a t'
  | bl b=>cases rx;exact SeqAt.EqAt.str_bool a t' b
  | int b=>obtain⟨t,rfl⟩:=rx;exact SeqAt.EqAt.str_int a t' b t
  | str b=>obtain⟨t,rfl⟩:=rx;exact SeqAt.EqAt.str_str a t' b t
  | _=>exact absurd (show false=true from fx) Gb
 | _=>exact absurd (show false=true from fy) Gb
noncomputable def eqU (x:V) (u:Value):Bool:=match u with
 | .none=>eqV .non x
 | .bool b=>eqV Z5t x
 | .int i _=>eqV Z08 x
 | .str z _=>eqV (.str z) x
 | _=>false
theorem u9 {x y:V}{u:Value}(r:Z3c) (f:gU y=true):eqU x u=eqV y x:=by
 cases y with
 | non=>cases r;rfl
 | bl b=>cases r;rfl
 | int i=>obtain⟨t,rfl⟩:=r;rfl
 | str z=>obtain⟨t,rfl⟩:=r;rfl
 | _=>exact absurd (show false=true from f) Gb
theorem i8:∀ {xs:List V}{us:List Value},Vals xs us->xs.all gU=true->us.any Z4a=xs.any λ y=>eqV y x
 | _,_,.nil,_=>rfl
 | y::xs,u::us,.cons r t,f=>by
  rw[Jt,Hg] at f
  rw[Jb,Jb,u9 r f.1,i8 t f.2]
theorem ib {A:Around}{s:Shared}{x:V}{v:Value}(rx:ZLj) (fx:gU x=true):∀ {xs:List V}{us:List Value},Vals xs us->xs.all gU=true->∀ u∈us,SeqAt.EqAt A s u v (eqU x u)
 | _,_,.nil,_=>λ u hu=>by cases hu
 | y::xs,u::us,.cons r t,f=>λ u' hu=>by
  rw[Jt,Hg] at f
  rcases FR.mp hu with rfl|hu
  ·rw[u9 r f.1];exact Av r rx f.1 fx
  ·exact ib rx fx t f.2 u' hu
noncomputable def inV (x:V) (xs:Z04):Bool:=xs.any λ y=>eqV y x
inductive rIn (K:PySem.W.Frag) (neg:Bool) (x:V) (y:V) (H:Hp) (Q:VK):Prop
 | mk:∀ p xs,y=.ref p->(SqL K H p xs\/SqT K H p xs)->gU x=true->xs.all gU=true->Q (.bl (if neg then !inV x xs else inV x xs)) H->rIn K neg x y H Q
theorem tH:OpR X ZJg (rIn X.K false):=by
 intro pins s σ H x y v u Q I rx ry h
 obtain⟨p,xs,rfl,hq,fx,fs,q⟩:=h
 cases ry
 rcases hq with hq|hq
 ·obtain⟨its,r,pl,hz⟩:=ZEB
  refine SeqAt.in_listAt Z4a pl.isList (λ w hw=>ib rx fx r fs w (by simpa using hw)) ⟨.bl _,H,I,rfl,?_⟩
  rw[show its.toArray.any Z4a=its.any Z4a by simp,i8 r fs]
  exact q
 ·obtain⟨its,r,pl,hz⟩:=I.tuple hq
  refine SeqAt.in_tupleAt Z4a pl (λ w hw=>ib rx fx r fs w (by simpa using hw)) ⟨.bl _,H,I,rfl,?_⟩
  rw[show its.toArray.any Z4a=its.any Z4a by simp,i8 r fs]
  exact q
theorem mR:OpR X Z8D (rIn X.K true):=by
 intro pins s σ H x y v u Q I rx ry h
 obtain⟨p,xs,rfl,hq,fx,fs,q⟩:=h
 cases ry
 rcases hq with hq|hq
 ·obtain⟨its,r,pl,hz⟩:=ZEB
  refine SeqAt.notIn_listAt Z4a pl.isList (λ w hw=>ib rx fx r fs w (by simpa using hw)) ⟨.bl _,H,I,rfl,?_⟩
  rw[show its.toArray.any Z4a=its.any Z4a by simp,i8 r fs]
  exact q
 ·obtain⟨its,r,pl,hz⟩:=I.tuple hq
  refine SeqAt.notIn_tupleAt Z4a pl (λ w hw=>ib rx fx r fs w (by simpa using hw)) ⟨.bl _,H,I,rfl,?_⟩
  rw[show its.toArray.any Z4a=its.any Z4a by simp,i8 r fs]
  exact q
theorem m9:eG X (.builtin "len") (λ xs H Q=>∃ p ys,xs=[Zs]/\(SqL X.K H p ys\/SqT X.K H p ys)/\Q Z7_ H):=by
 intro pins s σ H xs D Q I r h
 obtain⟨p,ys,rfl,i,q⟩:=h
 obtain⟨u,rfl,z⟩:=Z4x
 cases z
 have B:=ko
 rcases i with i|i
 ·obtain⟨j,n,l,y⟩:=I.list i
  have d:=n.length
  exact Calls.call_len_list l.isList (by simp only[F7]<;>lia) ⟨Z7_,H,Z1u,⟨s.toks+1,by rw[F7,d]⟩,q⟩
 ·obtain⟨j,n,l,y⟩:=I.tuple i
  have d:=n.length
  exact len_tuple l (by simp only[F7]<;>lia) ⟨Z7_,H,Z1u,⟨s.toks+1,by rw[F7,d]⟩,q⟩
theorem m7:eG X (.type "list") (λ xs H Q=>∃ p ys,xs=[Zs]/\(SqL X.K H p ys\/SqT X.K H p ys)/\∀ l,H l=none->Q Zg ZET):=by
 intro pins s σ H xs O Q I r h
 obtain⟨p,ys,rfl,B,q⟩:=h
 obtain⟨u,rfl,N⟩:=Z4x
 cases N
 have y:∀ (d:List Value),Vals ys d->ys.length<=sizeLine->∀ (h':Heap) (i:Nat),(∀ b o',s.heap.get? b=some o'->h'.get? b=some o') ->
   h'.get? s.heap.objs.size=some { cls:=.type "list",dict:=none,data:=.seq d.toArray i,slots:=#[] }->EP X pins σ Q ZD { s with heap:=h' }:=λ d j D h' i F e=>
  ⟨ZD,_,I.laid (t':=s.toks) F Z9 (show dm X.prog X.w _ h' _ Zb from ⟨D,d,i,j,e⟩),rfl,q _ Z1p⟩
 rcases B with B|B
 ·obtain⟨d,j,M,D⟩:=I.list B
  have z:=j.length
  obtain⟨o,L,G,n,J⟩:=M.isList
  exact call_list_seq p Z0N L G J Z8m (by simp only[F7]<;>lia)
 ·obtain⟨d,j,M,D⟩:=I.tuple B
  have z:=j.length
  obtain⟨o,L,G,n,J⟩:=M
  exact call_list_seq p Z5k L G J Z8m (by simp only[F7]<;>lia)
theorem lG:eG X (.type "tuple") (λ xs H Q=>∃ p ys,xs=[Zs]/\((SqL X.K H p ys/\∀ l,H l=none->Q Zg ZMO)\/(SqT X.K H p ys/\Q Zs H))):=by
 intro pins s σ H xs J Q I r h
 obtain⟨p,ys,rfl,h⟩:=h
 obtain⟨u,rfl,G⟩:=Z4x
 cases G
 rcases h with ⟨i,q⟩|⟨i,q⟩
 ·obtain⟨d,n,j,B⟩:=I.list i
  have z:=n.length
  refine call_tuple_list j.isList (λ h' F=>?_) (by simp only[F7]<;>lia)
  have y:Inv X pins σ H { s with heap:=h' }:=I.kept (t':=s.toks) F
  have D:Inv X pins σ (upd H h'.objs.size Z8J) { s with heap:=h'.push { cls:=.type "tuple",data:=.seq d.toArray } }:=
   y.laid (t':=s.toks) ZBd Z9 (show dm X.prog X.w _ _ _ Z8J from ⟨B,d,n,IsTup.new _ _⟩)
  exact⟨.ref h'.objs.size,_,D,rfl,q _ (y.hok.fresh Z9)⟩
 ·obtain⟨d,n,j,B⟩:=I.tuple i
  exact call_tuple_same j ⟨Zs,H,I,rfl,q⟩
def tyV (K:PySem.W.Frag) (T:String) (x:V) (H:Hp):Prop:=match x with
 | .str _=>T = "str"
 | .int _=>T = "int"
 | .ref p=>(T = "list" /\ ∃ xs,SqL K H p xs)\/(T = "tuple" /\ ∃ o,K.lookup p=some o/\o.cls=.type "tuple" /\ o.dict=none) \/
   (T = "dict" /\ ((∃ kvs,H p=some Z1o)\/∃ kvs,H p=some Zl))\/(T = "set" /\ ∃ S n,H p=some (.set S n))
 | _=>False
theorem vP (I:Z7) (r:ZLj) (j:tyV X.K T x H) :
  s.TypeIs v T/\∀ a,v=.ref a->∃ B,s.heap.get? a=some B/\B.dict=none:=by
 cases x with
 | str z=>
  obtain⟨t,rfl⟩:=r
  cases (show T = "str" from j)
  exact⟨typeIs_str s z t,λ _ e=>nomatch e⟩
 | int i=>
  obtain⟨t,rfl⟩:=r
  cases (show T = "int" from j)
  exact⟨typeIs_int s i t,λ _ e=>nomatch e⟩
 | ref p=>
  cases r
  rcases j with ⟨rfl,xs,G⟩|⟨rfl,o,d,F,q⟩|⟨rfl,d⟩|⟨rfl,S,n,d⟩
  ·obtain⟨J,_,D,_⟩:=I.list G
   refine⟨D.isList.typeIs,λ a e=>?_⟩
   cases e
   obtain⟨o,n,e,c,q,_⟩:=D
   exact⟨o,e,q⟩
  ·refine⟨⟨o,I.kIn p o d,F⟩,λ a e=>?_⟩
   cases e
   exact⟨o,I.kIn _ o d,q⟩
  ·have z:∃ o,s.heap.get? p=some o/\o.ExactDict:=by
    rcases d with ⟨y,d⟩|⟨y,d⟩
    ·obtain⟨_,_,_,_,o,_,_,e,ex,_⟩:=ZFb
     exact⟨o,e,ex⟩
    ·obtain⟨_,_,_,_,o,_,_,e,ex,_⟩:=ZFb
     exact⟨o,e,ex⟩
   obtain⟨o,e,ex⟩:=z
   refine Z8S
   cases l
   exact ZHd
  ·obtain⟨o,_,_,_,e,ex,_⟩:=ZFb
   refine Z8S
   cases l
   exact ZHd
 | _=>exact Z9A
def AZ (K:PySem.W.Frag) (T:String) (r:V->List V->Hp->VK->Prop) (to:TE):TE:=λ σ H Q=>to σ H λ x H1=>tyV K T x H1/\r x [] H1 Q
def tBM (K:PySem.W.Frag) (T:String) (r:V->List V->Hp->VK->Prop) (to:TE) (t:TA):TE:=λ σ H Q=>to σ H λ x H1=>tyV K T x H1/\t σ H1 λ xs H2=>r x xs H2 Q
variable {o e:Expr}{es:List Expr}{to:TE}{t:TA}{name:Str}{apos cpos:Pos}{T id:String}{r:V->List V->Hp->VK->Prop}
theorem zv (B:Z95) (j:Z7C) (l:typeOf Z14=pure (.type "method_descriptor")) (y:ZC6) (z:ZAI)
  (d:attributeBase o name X.env Z3i=eval o X.env:=by rfl) (i:(apos.endLine == cpos.line)=true:=by rfl):PE X ZDi (AZ X.K T r to):=by
 intro pins s σ H Q I h
 refine wpAny_Call_method0_late d i (thn ZES λ v F w=>?_)
 obtain⟨x,H1,n,q,G,D⟩:=w
 obtain⟨h1,h2⟩:=vP n q G
 exact⟨T,id,B,j,l,h1,h2,Calls.callWith_builtin rfl (PySem.evalArgs_none (y pins F σ H1 x [] v [] Q n q .nil D))⟩
theorem Dx (L:Z95) (n:Z7C) (q:typeOf Z14=pure (.type "method_descriptor")) (G:ZC6) (J:ZAI) (F:PA X (e::es) t)
  (i:attributeBase o name X.env Z3i=eval o X.env:=by rfl)
  (l:((backTo cpos (starEach (e::es) X.env)).all (λ x=>!x.1) && (Z8a).all Z88
   && decide ((e::es).length+([]:Z96).length+(if ([]:List Keyword).isEmpty then 0 else 1)<30))=true:=by rfl)
  (j:(apos.endLine == cpos.line)=true:=by rfl) (hs:starEach (e::es) X.env=(false,Z0Q)::starEach es X.env:=by rfl) (d:(Z3S).any (·.1)=false:=by rfl) :
  PE X (.Call Z2v (e::es) [] cpos) (tBM X.K T r to t):=by
 intro pins s σ H Q I h
 refine wpAny_Call_method_late i l j rfl (thn (J pins s σ H _ I h) λ v R z=>?_)
 obtain⟨x,H1,y,B,U,M⟩:=z
 obtain⟨h1,h2⟩:=vP y B U
 refine⟨T,id,L,n,q,h1,h2,?_⟩
 have z:=F cpos pins R σ H1 _ y M
 rw[hs] at z ⊢
 refine Calls.callWith_builtin (by show (false || (Z3S).any (·.1))=false;rw[d]<;>rfl) (Calls.evalArgs_plain ?_)
 exact thn z λ V S ⟨W,H2,D,O,N⟩=>G pins S σ H2 x W v V Q D B O N
end
def MtM (X:Cx) (id:String) (r:V->List V->Hp->VK->Prop):Prop:=
 ∀ (pins:List (Addr×Obj)) (s:Shared) (σ:St) (H:Hp) (x:V) (xs:List V) (v:Value) (us:List Value) (Q:VK),Inv X pins σ H s->RelV x v->Vals xs us->r x xs H Q ->
  wpAny Z3 X.A (call Z14 (v::us)) Z09 X.xe s
theorem Vals.one:∀ {x:V}{us:List Value},Vals [x] us->∃ u,us=[u]/\RelV x u
 | _,_,.cons r .nil=>ZL2
theorem Vals.zero:∀ {us:List Value},Vals [] us->us=[]
 | _,.nil=>rfl
theorem Vals.dropLast (h:Vals xs us):Vals xs.dropLast us.dropLast:=by
 induction h with
 | nil=>exact .nil
 | cons r t d=>
  cases t with
  | nil=>exact .nil
  | cons q i=>exact .cons r d
theorem qr (l:List α):l.eraseIdx (l.length-1)=l.dropLast:=by
 induction l with
 | nil=>rfl
 | cons a r d=>
  cases r with
  | nil=>rfl
  | cons b r=>
   have e:(a::b::r).length-1=((b::r).length-1)+1:=by
    have h1:(a::b::r).length=r.length+2:=rfl
    have h2:(b::r).length=r.length+1:=rfl
    lia
   rw[e,List.eraseIdx_cons_succ,d]
   all_goals rfl
section
variable {X:Cx}{pins:List (Addr×Obj)}{σ:St}{H:Hp}{s:Shared}{l b:Addr}{xs ys zs:List V}
theorem Inv.wX {its its':Zh}{n:Nat}{f:Array Value->Array Value}{t':Nat}(I:Z7) (d:H l=some ZQ)
  (e:s.heap.get? l=some { cls:=.type "list",data:=Z1A}) (j:f its.toArray=its'.toArray) (z:Vals ys its') (hz:ys.length<=sizeLine) :
  Inv X pins σ ZET { s with heap:=s.heap.update l ZKy,toks:=t' }:=by
 have q:=PySem.IsL.update e f
 rw[j] at q
 refine I.write (x:=l) (e:=l) (by rw[d];exact trivial) Z0N (λ B u i y=>(Heap.get?_update_other s.heap ZKy (Ne.symm i)).trans y) ⟨_,q⟩ ?_
 exact⟨hz,its',_,z,q⟩
theorem Inv.FD (I:Z7) (d:Vals ys its) (hz:ys.length<=sizeLine) :
  Inv X pins σ (upd H s.heap.objs.size Zb) { s with heap:=s.heap.push { cls:=.type "list",data:=.seq its.toArray },toks:=t' }:=
 I.laid ZBe Z9 ⟨hz,its,0,d,ZG⟩
theorem Inv.fresh (I:Z7):H s.heap.objs.size=none:=Z1p
theorem Inv.qe (I:Z7) (d:H l=some ZQ):xs.length<=sizeLine/\∃ (its:List Value) (n:Nat),Vals xs its/\xs.length=its.length/\s.heap.get? l=some { cls:=.type "list",data:=Z1A}:=by
 obtain⟨z,its,n,r,e⟩:=I.hok l _ d
 exact⟨z,its,n,r,r.length,e⟩
theorem vY (h:n<=sizeLine):Builtin.List.listTooLong n=false:=by
 unfold Builtin.List.listTooLong
 exact GW Z1
end
section
variable {X:Cx}
inductive j5 (x:V) (vs:List V) (H:Hp) (Q:VK):Prop
 | mk:∀ l xs y,x=.ref l->vs=[y]->H l=some ZQ->xs.length<sizeLine->Q .non (upd H l (.lst (xs++[y])))->j5 x vs H Q
theorem dA:MtM X "list.append" j5:=by
 intro pins s σ H x M v L Q I D B h
 obtain⟨l,xs,y,rfl,rfl,i,J,q⟩:=h
 cases D
 obtain⟨u,rfl,j⟩:=B.one
 obtain⟨z,d,n,r,G,e⟩:=I.qe i
 refine Ks F.slot_list_append Z7v F.entry_list_append (F.args_list_append_2 _ _) (PySem.list_append l d.toArray n u (by rw[F7];lia)) ZBq
 refine⟨.non,_,I.wX (its':=d++[u]) i e Z8 (r.append (.cons j .nil)) ?_,rfl,q⟩
 rw[FQ,F6]
 lia
inductive rN (x:V) (vs:List V) (H:Hp) (Q:VK):Prop
 | mk:∀ l b xs zs,x=.ref l->vs=[Zj]->H l=some ZQ->H b=some Z5P->xs.length+zs.length<=sizeLine->Q .non (upd H l (.lst (xs++zs)))->rN x vs H Q
theorem iy:MtM X "list.extend" rN:=by
 intro pins s σ H x W v V Q I R O h
 obtain⟨l,b,xs,zs,rfl,rfl,B,G,U,q⟩:=h
 cases R
 obtain⟨u,rfl,N⟩:=O.one
 cases N
 obtain⟨z,i,n,r,S,e⟩:=I.qe B
 obtain⟨Y,d,L,M,J,D⟩:=I.qe G
 have y:i.toArray.size+d.toArray.size<=sizeLine:=by rw[F7,F7];lia
 have j:¬ (!i.toArray.isEmpty && Builtin.List.listTooLong (i.toArray.size+d.toArray.size))=true:=by
  rw[vY y,Kt]
  exact Gb
 refine Ks F.slot_list_extend Z7v F.entry_list_extend (F.args_list_extend_2 _ _)
  (AutoSeq1.list_extend_list_list_0 l i.toArray n b d.toArray L j (by rw[F7];lia) Z1) ⟨e,D,?_⟩
 refine⟨.non,_,I.wX (its':=i++d) B e Z8 (r.append M) ?_,rfl,q⟩
 rw[FQ]
 lia
inductive Cc (x:V) (vs:List V) (H:Hp) (Q:VK):Prop
 | mk:∀ l xs y,x=.ref l->vs=[]->H l=some ZQ->xs[xs.length-1]? = some y->Q y (upd H l (.lst xs.dropLast))->Cc x vs H Q
theorem wc:MtM X "list.pop" Cc:=by
 intro pins s σ H x R v O Q I N M h
 obtain⟨l,xs,y,rfl,rfl,B,J,q⟩:=h
 cases N
 have i:=M.zero
 subst i
 obtain⟨z,d,n,r,D,e⟩:=I.qe B
 obtain⟨u,G,L⟩:=r.get J
 have j:d.toArray[d.toArray.size-1]? = some u:=by
  show d.toArray[d.length-1]? = some u
  rw[<- Gz,<- D]
  exact G
 refine Ks F.slot_list_pop Z7v F.entry_list_pop (F.args_list_pop_1 _) (MeetsSeq.list_pop_last l d.toArray n u j (by rw[F7];lia)) ZBq
 refine⟨y,_,I.wX (its':=d.dropLast) B e ?_ r.dropLast ?_,L,q⟩
 ·show d.toArray.eraseIdxIfInBounds (d.toArray.size-1)=d.dropLast.toArray
  rw[F7,List.eraseIdxIfInBounds_toArray,qr]
 ·rw[List.length_dropLast]
  lia
inductive uc (x:V) (vs:List V) (H:Hp) (Q:VK):Prop
 | mk:∀ l xs,x=.ref l->vs=[]->H l=some ZQ->Q .non (upd H l Zr)->uc x vs H Q
theorem vp:MtM X "list.clear" uc:=by
 intro pins s σ H x J v G Q I B y h
 obtain⟨l,xs,rfl,rfl,j,q⟩:=h
 cases B
 have d:=y.zero
 subst d
 obtain⟨z,i,n,r,D,e⟩:=I.qe j
 refine Ks F.slot_list_clear Z7v F.entry_list_clear (F.args_list_clear_1 _) (AutoSeq1.list_clear_list_0 l i.toArray n (by rw[F7];lia)) ZBq
 exact⟨.non,_,I.wX (its':=[]) (ys:=[]) j e rfl .nil Z8g,rfl,q⟩
inductive Ej (x:V) (y:V) (H:Hp) (Q:VK):Prop
 | mk:∀ l b xs zs,x=.ref l->y=.ref b->H l=some ZQ->H b=some Z5P->xs.length+zs.length<=sizeLine->(∀ p,H p=none->Q Zs (upd H p (.lst (xs++zs))))->Ej x y H Q
theorem qc:OpR X ZJk Ej:=by
 intro pins s σ H x y v u Q I L M h
 obtain⟨l,b,xs,zs,rfl,rfl,F,D,O,q⟩:=h
 cases L
 cases M
 obtain⟨z,i,n,r,N,e⟩:=I.qe F
 obtain⟨S,d,R,J,G,j⟩:=I.qe D
 refine PySem.P.add_list e j ?_ (by rw[F7,F7];lia)
 have B:i.toArray++d.toArray=(i++d).toArray:=Ze
 rw[B]
 exact⟨.ref _,_,I.FD (t':=s.toks) (r.append J) (by rw[FQ];lia),rfl,ZA3⟩
end
section
variable {prog:Program}{w:World}{A:Around}{E:Value->Shared->Prop}{s:Shared}
end
section
variable {X:Cx}
end
section
variable {κ:Type} [DecidableEq κ]
noncomputable def eu (kvs:List (κ×V)) (k:κ):ZCn:=(kvs.find? λ kv=>decide (kv.1=k)).map (·.2)
noncomputable def putK (kvs:List (κ×V)) (k:κ) (v:V):List (κ×V):=
 if (kvs.any λ kv=>decide (kv.1=k))=true then kvs.map (λ kv=>if kv.1=k then (kv.1,v) else kv) else kvs++[(k,v)]
noncomputable def mC (kvs:List (κ×V)) (k:κ):List (κ×V):=kvs.filter λ kv=>decide (kv.1≠k)
theorem ue:eu ([]:List (κ×V)) k=none:=rfl
theorem hJ {p:κ×V}{r:List (κ×V)}{k:κ}(e:p.1=k):eu (p::r) k=some p.2:=by simp[eu,II,e]
theorem gF {p:κ×V}{r:List (κ×V)}{k:κ}(e:¬ p.1=k):eu (p::r) k=eu r k:=by simp[eu,II,e]
theorem jj (k:κ):∀ kvs:List (κ×V),(kvs.any λ d=>decide (d.1=k))=(eu kvs k).isSome
 | []=>rfl
 | p::r=>by
  rw[Jb]
  by_cases e:p.1=k
  ·simp only[hJ e,Gg e,Bool.true_or,Option.isSome_some]
  ·rw[gF e,GW e,Bool.false_or];exact jj k r
theorem jQ (kvs) (k:κ) (v):(Z6J).length<=kvs.length+1:=by
 unfold putK
 split
 ·rw[FO];lia
 ·rw[FQ,GF,List.length_nil];lia
theorem gX {kvs:List (κ×V)}{k:κ}(v:V) (h:eu kvs k=none):putK kvs k v=kvs++[(k,v)]:=by
 unfold putK
 rw[jj,h]
 exact ZEF
theorem gO.jI (r:gO o u):o.isSome=u.isSome:=by
 cases o with
 | none=>cases u with
  | none=>rfl
  | some _=>exact(show False from r).elim
 | some _=>cases u with
  | none=>exact(show False from r).elim
  | some _=>rfl
theorem gO.getD {o:ZCn}{u:Option Value}{d:V}{d':Value}(r:gO o u) (i:RelV d d'):RelV (o.getD d) (u.getD d'):=by
 cases o with
 | none=>cases u with
  | none=>exact i
  | some _=>exact(show False from r).elim
 | some _=>cases u with
  | none=>exact(show False from r).elim
  | some _=>exact r
theorem KV.val {kvs:List (κ×V)}{vs:List (κ×Value)}(r:Z6S) (k:κ):gO ZCM (valueAt vs k):=by
 unfold KV at r
 induction r with
 | nil=>exact True.intro
 | @cons p q ps i h t j=>
  obtain⟨h1,h2⟩:=h
  by_cases e:p.1=k
  ·have d:q.1=k:=Z6M
   have b:valueAt (q::i) k=some q.2:=by simp[valueAt,II,d]
   rw[hJ e,b];exact h2
  ·have d:¬ q.1=k:=λ z=>Z79
   have b:valueAt (q::i) k=valueAt i k:=by simp[valueAt,II,d]
   rw[gF e,b];exact j
theorem KV.any (r:Z6S) (k:κ):(kvs.any λ d=>decide (d.1=k))=vs.any λ d=>decide (d.1=k):=by
 unfold KV at r
 induction r with
 | nil=>rfl
 | cons h t i=>rw[Jb,Jb,i,h.1]
theorem KV.Aj (r:Z6S) (k:κ) (j:Z3c) :
  KV (kvs.map λ d=>if d.1=k then (d.1,y) else d) (vs.map λ d=>if d.1=k then (d.1,u) else d):=by
 unfold KV at r ⊢
 induction r with
 | nil=>exact .nil
 | @cons p q ps n h t i=>
  rw[Gq,Gq]
  refine .cons ?_ i
  obtain⟨h1,h2⟩:=h
  by_cases e:p.1=k
  ·rw[FX e,FX Z6M];exact⟨h1,j⟩
  ·rw[FV e,ZKe];exact⟨h1,h2⟩
theorem KV.put (r:Z6S) (k:κ) (d:Z3c):KV ZKr (stored vs k u):=by
 unfold putK stored
 rw[r.any k]
 by_cases e:(vs.any λ i=>decide (i.1=k))=true
 ·rw[FX e,FX e];exact r.Aj k d
 ·rw[FV e,FV e];exact Paired.snoc r ⟨rfl,d⟩
theorem KV.length (r:Z6S):kvs.length=vs.length:=Z3A
theorem vQ (kvs) (k:κ):(ZLI).length<=kvs.length:=GU _ _
end
theorem oA (r:RelV (kV k) u):(dJ P w).is k u=true:=by
 cases k with
 | inl i=>obtain⟨t,e⟩:=(show ∃ t,u=Value.int i t from r);subst e;exact ph P w i t
 | inr x=>obtain⟨t,e⟩:=(show ∃ t,u=Value.str x t from r);subst e;exact oZ P w x t
theorem lX:∀ {ks:List Key}{us:List Value},Vals ZFs us->ItemsAre ZDG ks us
 | [],_,r=>by rw[Jh] at r;cases r;exact .nil
 | k::ks,_,r=>by
  rw[Gq] at r
  cases r with
  | cons h t=>exact .cons (oA h) (lX t)
abbrev KT (H:Hp):List (List Key×V)->List (List Key×Addr×Value)->Prop:=Paired λ p q=>p.1=q.1/\H q.2.1=some ZG5/\RelV p.2 q.2.2
theorem KT.val {H:Hp}{kvs:List (List Key×V)}{xs:List (List Key×Addr×Value)}(r:Z4N) (k:Z9l):gO ZCM ((ZC2).map (·.2)):=by
 induction r with
 | nil=>exact True.intro
 | @cons p q ps i h t j=>
  obtain⟨h1,_,h2⟩:=h
  by_cases e:p.1=k
  ·have d:q.1=k:=Z6M
   have b:atKey (q::i) k=some q.2:=by simp[atKey,II,d]
   rw[hJ e,b];exact h2
  ·have d:¬ q.1=k:=λ z=>Z79
   have b:atKey (q::i) k=atKey i k:=by simp[atKey,II,d]
   rw[gF e,b];exact j
theorem KT.Aj (r:Z4N) (k) (n:Z3c) :
  KT H (kvs.map λ d=>if d.1=k then (d.1,y) else d) (xs.map (putAt k u)):=by
 induction r with
 | nil=>exact .nil
 | @cons p q ps B h t j=>
  rw[Gq,Gq]
  refine .cons ?_ j
  obtain⟨h1,h2,i⟩:=h
  unfold putAt
  by_cases e:p.1=k
  ·rw[FX e,FX Z6M];exact⟨h1,h2,n⟩
  ·rw[FV e,ZKe];exact⟨h1,h2,i⟩
theorem KT.put (r:Z4N) (k) (i:H b=some Z0j) (d:Z3c) :
  KT H ZKr (storedH xs k b u):=by
 have e:(kvs.any λ j=>decide (j.1=k))=(ZC2).isSome:=by
  rw[jj,(r.val k).jI,Option.isSome_map]
 unfold putK storedH
 rw[e]
 by_cases q:(ZC2).isSome=true
 ·rw[ZKb,ZKb];exact r.Aj k d
 ·rw[ZKd,ZKd];exact Paired.snoc r ⟨rfl,i,d⟩
theorem KT.keeps (r:Z4N) (d:∀ b ys,H b=some Z8J->H' b=some Z8J):KT H' kvs xs:=
 Paired.zx r λ _ _ z=>⟨z.1,d _ _ z.2.1,z.2.2⟩
section
variable {P:Program}{w:World}{H:Hp}{h:Heap}{a:Addr}
theorem yU (d:Z0c) (e:Rd H a u):ZKN:=e.ok d
theorem lN (d:Z0c) (e:Rd H a Z1o):kvs.length<=sizeLine/\(a == sysModules)=false/\∃ vs,KV kvs vs/\h.DictOf ZDG a vs:=
 show dm P w H h a Z1o from yU d e
theorem DG (d:Z0c) (e:H a=some Z1o):kvs.length<=sizeLine/\(a == sysModules)=false/\∃ vs,KV kvs vs/\h.DictOf ZDG a vs:=lN d ZAa
theorem iT (j:Z0c) (e:H a=some (.tup ZFs)):(Z31).is h ks a:=by
 obtain⟨_,d,r,o,h1,h2,n,i⟩:=(show dm P w H h a (.tup ZFs) from j a _ e)
 exact⟨o,d.toArray,n,h1,h2,i,by simpa using lX r⟩
theorem jN {kvs:List (List Key×V)}(ok:Z0c) (e:Rd H a Zl):kvs.length<=sizeLine/\(a == sysModules)=false /\
  ∃ xs,KT H kvs xs/\h.DictOfH Z31 a xs:=by
 obtain⟨z,y,xs,r,o,es,ep,h1,h2,h3,h4,h5⟩:=(show dm P w H h a Zl from yU ok e)
 refine⟨z,y,xs,r,o,es,ep,h1,h2,h3,h4,λ x hx=>?_,h5⟩
 have all:∀ {l:List (List Key×V)} {m:List (List Key×Addr×Value)},KT H l m->∀ x∈m,(Z31).is h x.1 x.2.1:=by
  intro l m q
  induction q with
  | nil=>intro x hx;exact nomatch hx
  | @cons p q ps qs hq t ih=>
   intro x hx
   rcases FR.mp hx with e|hx
   ·subst e
    exact iT ok (by rw[<- hq.1];exact hq.2.1)
   ·exact ih x hx
 exact all r x hx
theorem uS (d:Z0c) (e:H a=some Zl):kvs.length<=sizeLine/\(a == sysModules)=false /\
  ∃ xs,KT H kvs xs/\h.DictOfH Z31 a xs:=jN d ZAa
end
def kS (H:Hp) (a:Addr) (y:V) (r:ZCn):Prop:=
 (∃ kvs k,Rd H a Z1o/\y=kV k/\r=eu kvs k)\/∃ kvs k b,Rd H a Zl/\y=.ref b/\H b=some Z0j/\r=eu kvs k
def tV (H:Hp) (a:Addr) (y v:V) (H':Hp):Prop:=
 (∃ kvs k,H a=some Z1o/\y=kV k/\kvs.length<sizeLine/\H'=upd H a (.dK Z6J)) \/
 ∃ kvs k b,H a=some Zl/\y=.ref b/\H b=some Z0j/\kvs.length<sizeLine/\H'=upd H a (.dT Z6J)
theorem kS.k {H:Hp}{a:Addr}{kvs:List (Key×V)}{k:Key}(e:H a=some Z1o):kS H a (kV k) ZCM:=.inl ⟨kvs,k,ZAa,rfl,rfl⟩
theorem kS.t {H:Hp}{a b:Addr}{kvs:List (List Key×V)}{k:Z9l}(e:H a=some Zl) (d:H b=some Z0j):kS H a Zj ZCM:=.inr ⟨kvs,k,b,ZAa,rfl,d,rfl⟩
theorem tV.k {H:Hp}{a:Addr}{kvs:List (Key×V)}{k:Key}{v:V}(e:H a=some Z1o) (d:kvs.length<sizeLine):tV H a (kV k) v (upd H a (.dK Z6J)):=.inl ⟨kvs,k,e,rfl,d,rfl⟩
theorem tV.t {H:Hp}{a b:Addr}{kvs:List (List Key×V)}{k:Z9l}{v:V}(e:H a=some Zl) (d:H b=some Z0j) (i:kvs.length<sizeLine) :
  tV H a Zj v (upd H a (.dT Z6J)):=.inr ⟨kvs,k,b,e,rfl,d,i,rfl⟩
section
variable {X:Cx}{pins:List (Addr×Obj)}{σ:St}{H:Hp}{s:Shared}{a:Addr}{y v:V}{u r:Value}{o:Option V}{A:Around}{E:Value->Shared->Prop}
theorem Inv.big (I:Z7):sysModules<s.heap.objs.size:=by
 have h:mainGlobals<s.heap.objs.size:=(Z3t).lt
 exact J9 Z4 h
theorem tK (N:A.units+1<cLine) (I:Z7) (g:kS H a y Z3h) (G:Z3c) (h:∀ j s',Inv X pins σ H s'->RelV v j->Q j s') :
  wpAny Z3 A (getItem Z_ u) Q E s:=by
 rcases g with ⟨F,k,e,q,l⟩|⟨F,k,b,e,q,J,l⟩
 ·subst q
  obtain⟨z,L,O,d,n⟩:=Z8Z
  obtain⟨j,D,i⟩:=gO.some_of (v:=v) (o:=valueAt O k) (by rw[l];exact ZId)
  exact wpAny_getItem_of (oA G) n.mapOf D (h j _ Z1u i)
 ·subst q
  cases (show u=Value.ref b from G)
  obtain⟨z,L,xs,d,n⟩:=Z5F
  obtain⟨j,D,i⟩:=gO.some_of (v:=v) (o:=(ZC2).map (·.2)) (by rw[l];exact ZId)
  obtain⟨p,M,B⟩:=Gs.mp D
  refine wpAny_getItem_heap (Ib N) ZGv n M ?_
  rw[B]
  exact h j _ Z1u i
theorem wL (G:A.units+1<cLine) (I:Z7) (g:ZGu) (D:Z3c) (h:∀ s',Inv X pins σ H s'->Q (.bool (!o.isSome)) s') :
  wpAny Z3 A (compareOp .NotIn u Z_) Q E s:=by
 rcases g with ⟨B,k,e,j,l⟩|⟨B,k,b,e,j,F,l⟩
 ·subst j
  obtain⟨z,n,J,d,i⟩:=Z8Z
  refine wpAny_notIn_of (oA D) n i.mapOf ?_
  rw[<- (ZId).jI,<- l]
  exact h _ Z1u
 ·subst j
  cases (show u=Value.ref b from D)
  obtain⟨z,n,xs,d,i⟩:=Z5F
  refine wpAny_notIn_heap (Ib G) (iT I.hok F) n i ?_
  have q:=(ZId).jI
  rw[Option.isSome_map] at q
  rw[<- q,<- l]
  exact h _ Z1u
theorem mO (I:Z7) (n:Mut (H a)) (hs:ZCA) (j:∃ q,h'.get? a=some q) (d:dm X.prog X.w (upd H a ob) h' a ob) :
  Inv X pins σ (upd H a ob) { s with heap:=h',toks:=t' }:=
 I.write (x:=a) (e:=a) n Z0N (λ b q i z=>(hs.2 b i).trans z) j d
theorem zo (z:kvs.length<=sizeLine) (i:(a == sysModules)=false) (d:Z6S) (dd:h'.DictOf ZDG a vs) :
  dm P w H' h' a Z1o:=⟨z,i,vs,d,dd⟩
theorem sy {H':Hp}{Q:Unit->Shared->Prop}(hu:A.units+1<cLine) (I:Z7) (g:tV H a y v H') (S:Z3c) (R:RelV v r) (h:∀ s',Inv X pins σ H' s'->Q () s') :
  wpAny Z3 A (setItem Z_ u r) Q E s:=by
 rcases g with ⟨d,k,e,F,l,D⟩|⟨d,k,b,e,F,N,l,D⟩
 ·subst F D
  obtain⟨z,G,vs,i,B⟩:=DG I.hok e
  have M:vs.length<=sizeLine:=by rw[<- i.length];exact z
  have J:(putK d k v).length<=sizeLine:=by have:=jQ d k v;lia
  refine wpAny_setItem_pairs (hsz:=M) (oA S) B λ h' j L=>h _ ?_
  have Z:∃ q,h'.get? a=some q:=let ⟨q,_,_,n,_⟩:=j;⟨q,n⟩
  exact mO I (by rw[e];exact True.intro) L Z (zo J G (i.put k R) j)
 ·subst F D
  cases (show u=Value.ref b from S)
  obtain⟨z,G,xs,i,B⟩:=ZGo
  have M:xs.length<=sizeLine:=by rw[<- Paired.length i];exact z
  have J:(putK d k v).length<=sizeLine:=by have:=jQ d k v;lia
  refine wpAny_setItem_heap (hsz:=M) (Ib hu) (iT I.hok N) B λ h' j L=>h _ ?_
  obtain⟨q,es,U,n,h2,V,W,_,Y⟩:=j
  refine mO I (by rw[e];exact True.intro) L ⟨q,n⟩ ⟨J,G,_,(i.put k N R).keeps λ c ys O=>?_,q,es,U,n,h2,V,W,Y⟩
  rw[cz (fO O e (λ z=>nomatch z))]
  exact O
end
section
variable {X:Cx}{pins:List (Addr×Obj)}{σ:St}{H:Hp}{s:Shared}{a:Addr}{kvs:List (Key×V)}{k:Key}{u:Value}{A:Around}{E:Value->Shared->Prop}
end
def Bp (i:Expr):Prop:=∀ ov iv,subscripted i false ov iv=operate [ov,iv] (getItem ov iv)
theorem xO {prog:Program}{w:World}{A:Around}{E:Value->Shared->Prop}{s:Shared}{env:Env}{value d:Expr}{pos:Pos}{T id:String}{Q:Value->Shared->Prop}
  (I:typeLookup Z2Z "__getitem__" = pure (some Z14)) (hs:Bp d)
  (h:wpAny ZF A (eval value env) (λ o q=>wpAny ZF A (eval d env) (λ i j=>j.TypeIs o T/\wpAny ZF A ZMX Q E j) E q) E s) :
  wpAny ZF A (eval (.Subscript value d pos) env) Q E s:=by
 refine Subscript_ (GL h (λ o q D=>GL D (λ i j n=>?_) λ _ _ x=>x) λ _ _ x=>x)
 obtain⟨G,n⟩:=n
 unfold subscriptTail
 refine Z3V
 rw[getitemInPython_of_ne G.not_modules]
 refine FI (Jc G I ?_)
 have B:wpAny ZF A (subscripted d false o i) (λ r z=>wpAny ZF A (letTemporaryGo value o r >>= λ _=>pure r) Q E z) E j:=by
  rw[hs o i]
  exact wpAny_operating (GL n (λ r z F=>FI (wpAny_letTemporaryGo (FN F))) λ _ _ x=>x)
 first
  | exact FN (FI B)
  | exact FI (FN (FI B))
  | exact FI B
theorem oy (I:Z7) (g:ZGu):s.TypeIs Z_ "dict":=by
 rcases g with ⟨kvs,k,e,_,_⟩|⟨kvs,k,b,e,_,_,_⟩
 ·obtain⟨_,_,i,_,d⟩:=Z8Z
  exact d.typeIs
 ·obtain⟨_,_,xs,_,d⟩:=Z5F
  exact d.typeIs
inductive v5 (Q:VK) (x:V) (y:V) (H2:Hp):Prop
 | mk:∀ a v,x=.ref a->kS H2 a y Z3h->Q v H2->v5 Q x y H2
def E2 (td ty:TE):TE:=λ σ H Q=>td σ H λ x H1=>ty σ H1 λ y H2=>v5 Q x y H2
inductive nF (Q:VK) (y:V) (x:V) (H2:Hp):Prop
 | mk:∀ a o,x=.ref a->kS H2 a y o->Q (.bl (!o.isSome)) H2->nF Q y x H2
def wR (ty td:TE):TE:=λ σ H Q=>ty σ H λ y H1=>td σ H1 λ x H2=>nF Q y x H2
inductive vV (D:Ends) (σ:St) (v:V) (x:V) (y:V) (H3:Hp):Prop
 | mk:∀ a H4,x=.ref a->tV H3 a y v H4->D.nx σ H4->vV D σ v x y H3
def Eo (td ty tv:TE):TS:=λ D σ H=>tv σ H λ v H1=>td σ H1 λ x H2=>ty σ H2 λ y H3=>vV D σ v x y H3
section
variable {X:Cx}{o i e value:Expr}{pos pos' tpos:Pos}{td ty tv:TE}
theorem fu (B:X.A.units+1<cLine) (z:ZE5) (hi:ZIz) (hs:Bp i):PE X Z71 (E2 td ty):=by
 intro pins s σ H Q I h
 refine xO PySem.F.slot_dict_getitem.lookup hs (thn ZES λ u L ⟨x,H1,n,G,D⟩=>thn (hi pins L σ H1 _ n D) λ M N w=>?_)
 obtain⟨y,H2,j,J,a,v,ex,g,F⟩:=w
 subst ex
 obtain rfl:u=Value.ref a:=G
 exact⟨oy j g,tK B j g J λ R O q d=>⟨v,H2,q,d,F⟩⟩
theorem iC (z:X.A.units+1<cLine) (hi:ZIz) (q:ZE5):PC X .NotIn i o (wR ty td):=by
 intro pins s σ H Q I h
 refine thn (hi pins s σ H _ I h) λ M L ⟨y,H1,d,J,D⟩=>thn (q pins L σ H1 _ d D) λ u N z=>?_
 obtain⟨x,H2,j,G,a,B,ex,g,F⟩:=z
 subst ex
 obtain rfl:u=Value.ref a:=G
 exact wL z j g J λ O n=>⟨.bl (!B.isSome),H2,n,rfl,F⟩
theorem j6 (F:X.A.units+1<cLine) (B:ZE5) (hi:ZIz) (G:ZCm) (hs:swapsWith value (some ZFl) pos.line X.env=pure false) :
  PS X (.Assign [ZFl] value pos) (Eo td ty tv):=by
 intro pins s σ H D I h
 refine wpAny_Assign_Subscript (thn ZEg λ r S ⟨v,H1,j,N,J⟩=>thn (B pins S σ H1 _ j J) λ u U ⟨x,H2,n,O,L⟩=>thn (hi pins U σ H2 _ n L) λ W Y z=>?_) hs
 obtain⟨y,V,q,R,a,d,ex,g,M⟩:=z
 subst ex
 obtain rfl:u=Value.ref a:=O
 exact sy F q g R N λ Z z=>⟨σ,d,z,M⟩
end
theorem va (h:Heap) (d:sysModules<h.objs.size):dm P w H (h.push { cls:=.type "dict",data:=.dict #[] }) h.objs.size ZGi:=
 ⟨Z8g,ZCr,[],.nil,Heap.DictOf.new h⟩
theorem uM (h:Heap) (d:sysModules<h.objs.size):dm P w H (h.push { cls:=.type "dict",data:=.dict #[] }) h.objs.size (Z2W):=
 ⟨Z8g,ZCr,[],.nil,_,#[],0,ZG,Z8T,rfl,rfl,IT⟩
def z8:TE:=λ _ H Q=>∀ p,H p=none->Q Zs (upd H p ZGi)
def zG:TE:=λ _ H Q=>∀ p,H p=none->Q Zs (upd H p Z2W)
section
variable {X:Cx}{pos:Pos}
theorem uD:PE X ZHb z8:=λ pins s σ H Q I h=>
 wpAny_Dict_empty ⟨ZD,_,I.laid (a:=s.heap.objs.size) (o:=.dK []) (t':=s.toks) ZBe Z9 (va s.heap I.big),rfl,h _ Z1p⟩
theorem fK:PE X ZHb zG:=λ pins s σ H Q I h=>
 wpAny_Dict_empty ⟨ZD,_,I.laid (a:=s.heap.objs.size) (o:=Z2W) (t':=s.toks) ZBe Z9 (uM s.heap I.big),rfl,h _ Z1p⟩
end
structure M2 (X:Cx) (o:Expr) (m:Str) (apos:Pos) (e f:Expr) (cpos:Pos):Prop where
 base:attributeBase o m X.env Z3i=eval o X.env
 few:((backTo cpos ZDc).all (λ x=>!x.1) && (Z8a).all Z88
  && decide (([e,f]:Z3D).length+([]:Z96).length+(if ([]:List Keyword).isEmpty then 0 else 1)<30))=true
 line:(apos.endLine == cpos.line)=true
 trees:backTo cpos ZDc=[(false,Z0Q),(false,eval f X.env)]
def IsD (H:Hp) (a:Addr):Prop:=(∃ kvs,Rd H a Z1o)\/∃ kvs,Rd H a Zl
theorem Ae (I:Z7) (d:IsD H a) :
  s.TypeIs Z_ "dict" /\ (∀ b,Value.ref a=.ref b->∃ j,s.heap.get? b=some j/\j.dict=none)/\(a == sysModules)=false:=by
 rcases d with ⟨kvs,e⟩|⟨kvs,e⟩
 ·obtain⟨_,z,B,_,n⟩:=Z8Z
  refine Z9w
  cases q
  obtain⟨j,_,_,h1,h2,_⟩:=n
  exact ZGl
 ·obtain⟨_,z,xs,_,n⟩:=Z5F
  refine Z9w
  cases q
  obtain⟨j,_,_,h1,h2,_⟩:=n
  exact ZGl
section
variable {X:Cx}{pins:List (Addr×Obj)}{σ:St}{H:Hp}{s:Shared}{a:Addr}{y d:V}{u r:Value}{o:Option V}{A:Around}{E:Value->Shared->Prop}
theorem zR (L:A.units+1<cLine) (I:Z7) (g:ZGu) (F:Z3c) (D:RelV d r) (h:∀ G s',Inv X pins σ H s'->RelV (o.getD d) G->Q G s') :
  wpAny Z3 A (call (.builtin "dict.get") [Z_,u,r]) Q E s:=by
 rcases g with ⟨kvs,k,e,q,l⟩|⟨kvs,k,b,e,q,J,l⟩
 ·subst q
  obtain⟨z,B,M,j,n⟩:=Z8Z
  refine J7 JM n.typeIs PySem.F.entry_dict_get Z8v (meets_dict_get_default (dJ X.prog X.w) a (oA F) B r) ⟨_,n.mapOf,h _ _ Z1u ?_⟩
  rw[l]
  exact ZHx
 ·subst q
  cases (show u=Value.ref b from F)
  obtain⟨z,B,xs,j,n⟩:=Z5F
  refine J7 JM n.typeIs PySem.F.entry_dict_get Z8v (meetsH_dict_get_default Z2A a b B r) ⟨Ib L,k,xs,ZGv,n,h _ _ Z1u ?_⟩
  rw[l]
  exact ZHx
end
inductive qZ (ty:TE) (tx:TE) (σ:St) (Q:VK) (x:V) (H1:Hp):Prop
 | mk:∀ a,x=.ref a->IsD H1 a->(ty σ H1 λ y H2=>tx σ H2 λ z H3=>∃ o,kS H3 a y o/\Q (o.getD z) H3)->qZ ty tx σ Q x H1
def An (td ty tx:TE):TE:=λ σ H Q=>td σ H λ x H1=>qZ ty tx σ Q x H1
section
variable {X:Cx}{o e f:Expr}{apos cpos:Pos}{td ty tx:TE}
theorem vx (M:X.A.units+1<cLine) (L:ZE5) (G:PE X e ty) (J:PE X f tx) (m:M2 X o "get" apos e f cpos):PE X (.Call (.Attribute o "get" apos) [e,f] [] cpos) (An td ty tx):=by
 intro pins s σ H Q I h
 refine wpAny_Call_method m.base m.few m.line IL JM PySem.F.type_dict_get (thn (L pins s σ H _ I h) λ u W z=>?_)
 obtain⟨x,H1,n,S,a,ex,d,N⟩:=z
 subst ex
 obtain rfl:u=Value.ref a:=S
 obtain⟨Z,t2,_⟩:=Ae n d
 refine⟨Z,t2,?_⟩
 rw[m.trees]
 refine Calls.callWith_builtin rfl (Calls.evalArgs_plain (Calls.spliced_cons (thn (G pins W σ H1 _ n N) λ iv Y ⟨y,H2,B,U,O⟩=>
  Calls.spliced_cons (thn (J pins Y σ H2 _ B O) λ fv s3 ⟨z,q,D,V,ov,g,R⟩=>Calls.spliced_nil ?_))))
 exact zR M D g U V λ w' s4 F j=>⟨_,q,F,j,R⟩
end
section
variable {X:Cx}{pins:List (Addr×Obj)}{σ:St}{H:Hp}{s:Shared}{a:Addr}{kvs:List (Key×V)}{A:Around}{E:Value->Shared->Prop}
end
section
variable {X:Cx}{pins:List (Addr×Obj)}{σ:St}{H:Hp}{s:Shared}{a:Addr}{y:V}{u:Value}{A:Around}{E:Value->Shared->Prop}
end
end L2
namespace Att
open PySem PySem.W PySem.Calls PyProof.Rows
theorem jY:∀ (ns:List Int) (vs:List Value),WellAll P h vs ZGc->IntsAre vs ns:=by
 intro ns
 induction ns with
 | nil=>
  intro vs w
  rw[Jh] at w
  cases w
  exact .nil
 | cons n ns j=>
  intro vs w
  rw[Gq] at w
  cases w with
  | cons a b=>
   cases a
   exact .cons _ _ (j _ b)
theorem sH {l:OpenLaw}{n:Nat}(N:l.most=some n) {P:Params}{h:Heap}{args:List WData}{z:Zh}
  (j:l.row.toRowW.claim.pre args=true) (J:WellAll P h z args) :
  ∃ a vs ns,z=[Z7a]/\args=[WData.list ZGc]/\h.get? a=some { cls:=.type "list",data:=Z44}/\IntsAre vs ns/\ns.length<=n:=by
 have I:WShape.hasAll [] args [.list .int]=true:=(pre_splitW j).1
 have L:l.pre.holds [] { args:=args }=true:=(pre_splitW j).2
 obtain⟨d,r,rfl,h1,h2⟩:=hasAllW_cons I
 obtain rfl:=hasAllW_nil h2
 obtain⟨xs,rfl,M⟩:=hasW_list h1
 obtain⟨ns,rfl⟩:=items_int M
 have D:ns.length<=n:=by
  unfold OpenLaw.pre at L
  have F:(WTm.not (.lt (.lit (.int (n:Int))) (.len (.arg 0)))).holds [] { args:=[.list (ns.map .int)] }=true:=by
   have F:=(holds_andW L).1
   rw[N] at F
   exact F
  have G:=condW_of F (w_not (w_lt w_lit (w_len_list (w_arg rfl))))
  rw[FO] at G
  refine Nat.le_of_not_lt λ q=>?_
  have R:(n:Int)<((ns.length:Nat):Int):=Z1
  first
   | (rw[Gg R] at G;exact absurd G Z4)
   | (simp at G;lia)
 cases J with
 | cons S U=>
  cases U
  cases S with
  | list O B=>exact⟨_,_,ns,rfl,rfl,O,jY ns _ B,D⟩
theorem tW (l:OpenLaw) (args):l.row.toRowW.claim.post args Z2n args=true:=
 postW_of (r:=l.row.toRowW) (X:=(true == true))
  (show WShape.has [] Z2n .bool=true by first|rfl|decide|simp[WShape.has,WShape.arms,WShape.armsAll])
  (show (WTm.eq .res (.lit Z2n)).value [] { args:=args,res:=some Z2n,after:=args }=some (.bool (true == true)) from w_eq_bool (w_res rfl) w_lit) rfl
theorem nY {l:OpenLaw}{n:Nat}{q:Program}{z:ZT}{XP:(Str->Option Value)->Heap->Prop}{YP:World->Heap->Prop}{d:DefRec}
  (hn:l.most=some n) (U:d.params.defaults=[])
  (I:∀ (w:World) (B j:Shared) (R Z:Str->Option Value) (J:Addr) (o:Obj) (pm O D:Value) (a:Addr) (vs:List Value) (ns:List Int),
   Ground q z [] XP w B R Z j.heap->YP w j.heap ->
   j.heap.get? J=some o->o.data=.func (docDef d.name d.params d.body d.scope pm O D)->j.heap.CodeRec O d.name->R d.name=some ZN2 ->
   j.heap.get? a=some { cls:=.type "list",data:=Z44}->IntsAre vs ns->ns.length<=n->j.gens = #[] ->
   codeAny (model l.prog w) callerA (.call ZN2 Z7w) (λ r s'=>r=.ok ZHW/\OldK j.heap s'.heap/\s'.os=j.os/\AllBare s'.gens) j) :
  WalkO q z XP YP l.row.toRowW d [] Z4l:=by
 intro w B j R Z G Y J o pm O D dV kV ho hd S hD V hg a0 a2 as N a1 a4 W a3
 obtain rfl:dV=.none:=Dflts.none hD U
 obtain rfl:kV=.none:=Dflts.noKw hD
 obtain⟨a,vs,ns,rfl,rfl,M,F,L⟩:=sH hn N W
 refine enter_call (Ip (I w B j R Z J o pm O D a vs ns G Y ho (fd_plain hd) S V M F L hg) λ r s' hq=>?_)
 obtain⟨rfl,h2,h3,h4⟩:=hq
 exact⟨.inl ⟨Z2n,Z2n,[],rfl,λ _=>rfl,Z2n,tW l _,λ _=>⟨List.Pairwise.nil,λ _ hm=>(nomatch hm)⟩⟩,h2,h3,h4⟩
section
variable {prog:Program}{w:World}{A:Around}{E:Value->Shared->Prop}{s:Shared}{K:Frag}
noncomputable def ledger (h:Heap) (L d:Addr):List (Addr×Obj):=(Z62).filterMap λ a=>if a=L\/a=d then none else (h.get? a).map λ o=>(a,o)
end
end Att
namespace L2
open PySem PySem.Spec PyProof.Rows
theorem lR:∀ {vs:List Value}{ns:List Int},IntsAre vs ns->Vals Z4p vs
 | _,_,.nil=>.nil
 | _,_,.cons n t h=>.cons Z7N (lR h)
noncomputable def inClass (s:Stmt) (j:Nat):Stmt:=match s with
 | .ClassDef _ _ _ body _ _ _ _ _ _ _=>body.getD j Z4Y
 | _=>Z4Y
noncomputable def jd (s:Stmt):Arguments:=match s with
 | .FunctionDef _ a _ _ _ _ _ _ _ _=>a
 | _=>{ posonlyargs:=[],args:=[],vararg:=none,kwonlyargs:=[],kw_defaults:=[],kwarg:=none,defaults:=[] }
noncomputable def fP (s:Stmt):Z3r:=match s with
 | .FunctionDef _ _ b _ _ _ _ _ _ _=>b
 | _=>[]
noncomputable def cI (s:Stmt):Scope:=match s with
 | .FunctionDef _ _ _ _ _ _ sc _ _ _=>sc
 | _=>{ kind:=.function,names:=[],isGenerator:=false,isCoroutine:=false }
abbrev E0:XK:=λ _ _ _=>False
structure Fun (K:PySem.W.Frag) (x qual:Str) (st:Stmt) (f:Addr) (fd:FuncData):Prop where
 ex:∃ (oc:Value) (od:Option Addr) (kV doc pm:Value) (an:Option Addr) (cdv ct:Value) (osl:Array (Option Value)),
  fd=PySem.W.fnOf x qual (jd st) ZDF Z57 .none kV doc pm an cdv ct/\K.lookup f=some ⟨oc,od,.func fd,osl⟩/\PySem.W.codeIn K cdv qual=true
 kp:PySem.W.keepIn K Z06=true
section
variable {P:Program}{w:World}{K:PySem.W.Frag}{mg:Str->Option Value}{base:Heap}
theorem zq {x qual:Str}{st:Stmt}{f:Addr}{G:Value}{od z:ZAK}{q:Z48}{D n F j B:Value}(l:K.lookup f=some ⟨G,od,.func Z3J,q⟩)
  (c:PySem.W.codeIn K j qual=true) (k:PySem.W.keepIn K Z06=true):Fun K x qual st f Z3J:=⟨⟨G,od,D,n,F,z,j,B,q,rfl,l,c⟩,k⟩
end
theorem eK (j:eV k A):A.units+1<cLine:=GI (Nat.add_le_add_left (by decide:1<=64) _) j.units
theorem dc (h:n<=1000):n<sizeLine:=GI h Z4
section
variable {X:Cx}
theorem pv (i) (n:X.N[i]? = some x:=by rfl) (z:ZH3:=by first|exact Or.inl rfl|exact Or.inr Z5|exact Or.inr Z1R) (q:(x == ("__debug__" :ZBp))=false:=by decide)
  (j:(x == ("__classdict__" :ZBp))=false:=by decide):ZJ1:=uz n z q j
end
theorem fG {A B:Prop}(h:B):if false=true then A else B:=by
 rw[FV Gb]
 exact h
theorem fC {A B:Prop}(h:A):if true=true then A else B:=by
 rw[Z1X]
 exact h
theorem fY {c A B:Prop} [Decidable c] (h1:c->A) (h2:¬ c->B):if c then A else B:=by
 by_cases h:c
 ·rw[FX h]
  exact h1 h
 ·rw[ZLz]
  exact h2 h
def cG (H H':Hp):Prop:=∀ b o,H b=some o->H' b=some o
theorem cG.refl (H:Hp):cG H H:=λ _ _ h=>h
theorem cG.trans (a:cG H H1) (b:cG H1 H2):cG H H2:=λ c o h=>b c o (a c o h)
theorem cG.free (e:Z1t) (h:H' l=Option.none):H l=Option.none:=by
 cases q:H l with
 | none=>rfl
 | some o=>
  rw[e l o q] at h
  cases h
theorem cG.seq {K:PySem.W.Frag}{H H':Hp}{a:Addr}{xs:Z04}(e:Z1t) (h:Z94):ZLg:=by
 rcases h with (h|⟨o,h⟩)|h
 ·exact ZER
 ·exact ZAb
 ·exact ZAZ
section
variable {X:Cx}
end
section
variable {κ:Type} [DecidableEq κ]
theorem uN {kvs:List (κ×V)}{k:κ}(h:eu kvs k=none):¬ k∈kvs.map (·.1):=by
 intro m
 obtain⟨p,j,e⟩:=F2.mp m
 have q:(kvs.any λ n=>decide (n.1=k))=true:=List.any_eq_true.mpr ⟨p,j,Gg e⟩
 rw[jj,h] at q
 exact ZFS
end
theorem gP {sc:Scope}{env:Env}(h:∀ y∈sc.names,y.2=.free->∃ c,env.cells.lookup y.1=some c) :
  ∃ cl,closureFor sc env=pure cl/\(∀ x c,cl.lookup x=some c->env.cells.lookup x=some c)/\∀ y∈sc.names,y.2=.free->∃ c,cl.lookup y.1=some c:=by
 have go:∀ (names:List (Str×NameKind)) (cs:List (Str×Addr)),(∀ y∈names,y.2=.free->∃ c,env.cells.lookup y.1=some c)->(∀ x c,cs.lookup x=some c->env.cells.lookup x=some c) ->
   ∃ cl,(forIn names cs λ(x:Str×NameKind) (r:List (Str×Addr))=>(if (x.2 == NameKind.free)=true then do let c <- cellOf env x.1;pure (ForInStep.yield ((x.1,c)::r)) else pure (Z5M):Sem (ForInStep (List (Str×Addr)))))=pure cl /\
    (∀ x c,cl.lookup x=some c->env.cells.lookup x=some c)/\(∀ y∈names,y.2=.free->∃ c,cl.lookup y.1=some c)/\∀ x c,cs.lookup x=some c->∃ c',cl.lookup x=some c':=by
  intro names
  induction names with
  | nil=>intro cs _ hcs;exact⟨cs,rfl,hcs,λ y hy=>by simp at hy,λ x c e=>⟨c,e⟩⟩
  | cons y r ih=>
   intro cs hn hcs
   by_cases hy:y.2=.free
   ·obtain⟨c,hc⟩:=hn y FZ hy
    obtain⟨cl,e,h1,h2,h3⟩:=ih ((y.1,c)::cs) Z2X (λ x c' e=>by
     rw[Hx] at e
     by_cases hx:x=y.1
     ·subst hx;simp at e;subst e;exact hc
     ·have:(x == y.1)=false:=by simpa using hx
      rw[this] at e;exact hcs x c' e)
    refine⟨cl,?_,h1,λ z hz hf=>?_,λ x c' e'=>?_⟩
    ·rw[IH]
     have e1:(y.2 == NameKind.free)=true:=by rw[hy];rfl
     have e2:cellOf env y.1=pure c:=by unfold cellOf;rw[hc]
     rw[e1,e2]
     exact e
    ·rcases FR.mp hz with rfl|hz
     ·exact h3 z.1 c Z8
     ·exact h2 z hz hf
    ·by_cases hx:x=y.1
     ·subst hx;exact h3 y.1 c Z8
     ·have:(x == y.1)=false:=by simpa using hx
      exact h3 x c' (by rw[Hx,this];exact e')
   ·obtain⟨cl,e,h1,h2,h3⟩:=ih cs Z2X hcs
    refine⟨cl,?_,h1,λ z hz hf=>?_,h3⟩
    ·rw[IH]
     have e1:(y.2 == NameKind.free)=false:=by simpa using hy
     rw[e1]
     exact e
    ·rcases FR.mp hz with rfl|hz
     ·exact absurd hf hy
     ·exact h2 z hz hf
 obtain⟨cl,e,h1,h2,_⟩:=go sc.names [] h (λ x c e=>by simp at e)
 refine⟨cl,?_,h1,h2⟩
 have e2:closureFor sc env=((forIn sc.names [] λ(x:Str×NameKind) (r:List (Str×Addr))=>(if (x.2 == NameKind.free)=true then do let c <- cellOf env x.1;pure (ForInStep.yield ((x.1,c)::r)) else pure (Z5M):Sem (ForInStep (List (Str×Addr))))) >>= λ s=>pure s):=rfl
 rw[e2,e]
 rfl
theorem f9:(relabel sc env).names.lookup x =
  (sc.names.lookup x).map λ k=>if (k == NameKind.free && env.scope.kind == .function && env.kindOf x == some .cell)=true then NameKind.cell else k:=by
 have F:∀ j:List (Str×NameKind),(j.map λ(n,k)=>if (k == NameKind.free && env.scope.kind == .function && env.kindOf n == some .cell)=true then (n,NameKind.cell) else (n,k)).lookup x =
   (j.lookup x).map λ k=>if (k == NameKind.free && env.scope.kind == .function && env.kindOf x == some .cell)=true then NameKind.cell else k:=by
  intro j
  induction j with
  | nil=>rfl
  | cons y r D=>
   obtain⟨n,k⟩:=y
   rw[Gq,Hx]
   show List.lookup x ((if (k == NameKind.free && env.scope.kind == .function && env.kindOf n == some .cell)=true then (n,NameKind.cell) else (n,k))::_)=_
   by_cases B:x=n
   ·subst B
    by_cases q:(k == NameKind.free && env.scope.kind == .function && env.kindOf x == some .cell)=true
    ·rw[ZKb];simp only[Hx,Jv,Je];rw[ZKb]
    ·rw[ZKd];simp only[Hx,Jv,Je];rw[ZKd]
   ·have z:(x == n)=false:=by simpa using B
    by_cases q:(k == NameKind.free && env.scope.kind == .function && env.kindOf n == some .cell)=true
    ·rw[ZKb];simp only[Hx,z];exact D
    ·rw[ZKd];simp only[Hx,z];exact D
 exact F sc.names
structure jt (N:List Str) (esc sc:Scope) (N':List Str) (k:Nat):Prop where
 kind:sc.kind=.function
 nocell:∀ y∈sc.names,y.2≠.cell
 names:∀ y∈sc.names,y.2=.local->sc.names.lookup y.1=some .local
 free:∀ y∈sc.names,y.2=.free->esc.names.lookup y.1=some .cell\/esc.names.lookup y.1=some .free
 len:N'.length=N.length+k
 old:∀ (i:Nat) (x:Str),i<N.length->N'[i]? = some x->Vis sc x->N[i]? = some x/\sc.names.lookup x=some .free
noncomputable def kf (N:ZT) (esc sc:Scope) (N':ZT) (k:Nat):Bool:=
 (sc.kind == .function) && (sc.names.all λ y=>y.2 != .cell) && (sc.names.all λ y=>y.2 != .local || sc.names.lookup y.1 == some .local) &&
 (sc.names.all λ y=>y.2 != .free || (esc.names.lookup y.1 == some .cell || esc.names.lookup y.1 == some .free)) && (N'.length == N.length+k) &&
 ((N'.zip N).all λ p=>match sc.names.lookup p.1 with
  | some .local=>false
  | some .cell=>false
  | some .free=>p.1 == p.2
  | _=>true)
theorem jt.of (h:kf N esc sc N' k=true):jt N esc sc N' k:=by
 unfold kf at h
 simp only[Hg,HX,HK,JJ,bne_iff_ne,ne_eq] at h
 obtain⟨⟨⟨⟨⟨h1,h2⟩,n⟩,B⟩,D⟩,F⟩:=h
 refine⟨h1,λ y j=>h2 y j,λ y j e=>?_,λ y j e=>?_,D,λ i x hi L J=>?_⟩
 ·rcases n y j with z|z
  ·exact absurd e z
  ·exact z
 ·rcases B y j with z|z
  ·exact absurd e z
  ·exact z
 ·have G:i<(N'.zip N).length:=by rw[List.length_zip];lia
  have I:(x,N[i])∈N'.zip N:=by
   rw[IY]
   refine⟨i,?_⟩
   rw[List.getElem?_zip_eq_some]
   exact⟨L,by simp[hi]⟩
  have q:=F _ I
  rcases J with z|z|z
  ·rw[z] at q;exact ZFS
  ·rw[z] at q;exact ZFS
  ·rw[z] at q
   have M:x=N[i]:=by simpa using q
   refine⟨?_,z⟩
   rw[ZCw,<- M]
noncomputable def ff (X:Cx) (sc:Scope) (N':ZT) (cl:List (Str×Addr)) (C:Addr) (s₂:Shared) (H2:Hp) (fp:Zq):Cx:=
 { X with N:=N',s₀:=s₂,H₀:=H2,env:=compEnvC sc cl C X.env,outer:=X.stack,ex:=fp,fn:=λ _=>false,pn:=[],xe:=λ _ _=>False }
section
variable {X:Cx}{pins:List (Addr×Obj)}{σ:St}{H:Hp}{s₂:Shared}{sc:Scope}{N':List Str}{k:Nat}{cl:List (Str×Addr)}{C acc:Addr}{fp:List Addr}{h₁:Heap}{tk n:Nat}
theorem jR (h:Vis Z41 x):Vis sc x:=by
 unfold Vis at h ⊢
 rw[f9] at h
 cases e:sc.names.lookup x with
 | none=>rw[e] at h;simp at h
 | some k=>
  rw[e] at h
  simp only[Je,Option.some.injEq] at h ⊢
  split at h
  ·rename_i j
   simp only[Hg,HK] at j
   exact .inr (.inr j.1.1)
  ·exact h
theorem wD (ok:ZB4) (hcl:∀ x c,cl.lookup x=some c->X.env.cells.lookup x=some c) (hfr:∀ y∈sc.names,y.2=.free->∃ c,cl.lookup y.1=some c)
  (I:Inv X pins σ H s₂) (hfp:∀ b∈fp,Z33) (hob:∀ b∈fp,∃ o,s₂.heap.get? b=some o)
  (hacc:s₂.heap.objs.size<=acc) (hC:s₂.heap.objs.size<=C) (hne:C≠acc) (ns:h₁.Ns C λ _=>none) (kp:∀ b o,s₂.heap.get? b=some o->h₁.get? b=some o)
  (ha:h₁.get? acc=some { cls:=.type "list",data:=.seq #[] n }) :
  Inv (ff X sc N' cl C s₂ H fp) [] (σ++List.replicate k none) ZKp { s₂ with heap:=h₁,toks:=tk }:=by
 have hfresh:=I.hok.fresh hacc
 have hfreshC:=I.hok.fresh hC
 have hlook:∀ x,((ff X sc N' cl C s₂ H fp).env.kindOf x=some .cell\/(ff X sc N' cl C s₂ H fp).env.kindOf x=some .free)->sc.names.lookup x=some .free:=λ x hx=>by
  have hx':(Z41).names.lookup x=some .cell\/(Z41).names.lookup x=some .free:=hx
  have hv:Vis sc x:=jR (X:=X) (.inr hx')
  rcases hv with z|z|z
  ·rw[f9,z] at hx';simp at hx'
  ·exact absurd rfl (ok.nocell _ (GO z))
  ·exact z
 have hexf:∀ b∈fp,b<s₂.heap.objs.size:=λ b hb=>let ⟨o,e⟩:=hob b hb;Heap.lt_size e
 refine⟨⟨I.ok.mod,ok.kind,I.ok.glob,I.ok.blt,hC,λ x y c h1 h2=>I.ok.inj x y c (hcl x c h1) (hcl y c h2),λ x hx=>hfr _ (GO (hlook x hx)) rfl,λ x c h _=>absurd (show false=true from h) Z8,
   I.ok.hd,I.ok.frames,Z0N,λ b hb=>⟨F1 (F9 (hexf b hb) hC),λ x c e=>(ZLO).2.2.2.2.1 x c ZIY⟩,I.bs,ZHr,λ b o e hb=>?_,λ b hb z=>?_,I.stack,I.m6⟩,
  rfl,I.bare,Un.laid kp hacc hfresh,⟨_,ns,λ i x v e1 e2 e3=>?_⟩,λ x c e=>?_,?_,λ x c e=>?_,λ p hp=>absurd (show p∈([]:List (Addr×Obj)) from hp) Z8,I.hok.laid kp hacc ⟨Z8g,[],n,.nil,ha⟩,?_⟩
 ·rcases (hfp b hb).2.2.2.1 with z|z
  ·exact I.ok.noex b o e z
  ·exact absurd (F9 ZK (Gd I.ok.bsz z)) Z60
 ·rcases FR.mp (I.mJ b z) with q|q
  ·exact(ZLO).2.1 q
  ·exact(ZLO).2.2.1 q
 ·have hi:i<σ.length:=by
   by_cases hi:i<σ.length
   ·exact hi
   ·rw[ZLw,IM] at e2
    split at e2<;>cases e2
  rw[Gw hi] at e2
  have hiN:i<X.N.length:=by rw[<- I.len];exact hi
  obtain⟨q1,q2⟩:=ok.old i x hiN e1 (jR (X:=X) e3)
  have hk:=ok.free _ (GO q2) rfl
  obtain⟨m,hn,hl⟩:=I.loc
  obtain⟨u,ru,look⟩:=hl i x v q1 e2 (.inr hk)
  refine⟨u,ru,.inr ⟨?_,?_⟩⟩
  ·show (Z41).names.lookup x=some .cell\/(Z41).names.lookup x=some .free
   rw[f9,q2]
   simp only[Je,Option.some.injEq]
   split
   ·exact Z0N
   ·exact Z5k
  ·obtain⟨c,hc⟩:=hfr _ (GO q2) rfl
   rcases look with ⟨z,_⟩|⟨_,c',e',z⟩
   ·rcases hk with hk|hk
    ·have z':X.env.scope.names.lookup x=some .local:=z
     rw[hk] at z';cases z'
    ·have z':X.env.scope.names.lookup x=some .local:=z
     rw[hk] at z';cases z'
   ·have e'':=hcl x c hc
    rw[e'] at e'';cases e''
    obtain⟨o,ho,hd⟩:=z
    exact⟨_,hc,o,kp _ _ ho,hd⟩
 ·obtain⟨v,o,ho,hd⟩:=I.cell x c ZIY
  exact⟨v,o,kp _ _ ho,hd⟩
 ·show upd H acc Zr C=none
  rw[cz hne];exact hfreshC
 ·have hc:=ZIY
  obtain⟨v,z⟩:=ZLq
  have hlt:c<s₂.heap.objs.size:=z.lt
  show upd H acc Zr c=none\/(false=false/\∃ o u,upd H acc Zr c=some Z2L)
  rw[cz (F1 (F9 hlt hacc))]
  exact(ZK_).imp id λ z=>⟨rfl,z.2⟩
 ·show (σ++List.replicate k none).length=N'.length
  rw[FQ,HN,I.len,ok.len]
end
def PTs (X:Cx) (ifs:Z3D) (t:TT):Prop:=(ifs=[]/\∀ σ H Q,t σ H Q->Q true H)\/∃ c,ifs=[c]/\PT X c t
def gy:TT:=λ _ H Q=>Q true H
theorem dG:PTs X [] gy:=.inl ⟨rfl,λ _ _ _ h=>h⟩
theorem iD (h:PT X c t):PTs X [c] t:=.inr ⟨c,rfl,h⟩
abbrev je (J:It) (k:Nat) (g:TG) (tc:TT) (te:TE) (σ:St) (H1:Hp) (Q:VK):Prop:=
 ∀ acc,H1 acc=none->∃ W:Nat->Nat->St->List V->Hp->Prop,(∃ m,W 0 m (σ++List.replicate k none) [] Z3H) /\
  ∀ i m σ2 ys H2,W i m σ2 ys H2 ->
   (J.stop i H2/\Q Zt H2) \/
   (J.go i H2/\ys.length<sizeLine/\∀ x H3,J.yld i H2 x H3->g x σ2 H3 λ σ4 H4=>tc σ4 H4 λ b H5=>
    if b=true then te σ4 H5 λ v H6=>H6 acc=some Zb/\∃ m',m'<m/\W (i+1) m' σ4 (ys++[v]) (upd H6 acc (.lst (ys++[v])))
    else ∃ m',m'<m/\W (i+1) m' σ4 ys H5)
def sj (wi:TI) (k:Nat) (g:TG) (tc:TT) (te:TE):TE:=λ σ H Q=>wi σ H λ J H1=>je J k g tc te σ H1 Q
section
variable {X:Cx}{elt tg iter:Expr}{ifs:List Expr}{sc:Scope}{pos:Pos}{N':List Str}{k:Nat}{wi:TI}{g:TG}{tc:TT}{te:TE}{cl:List (Str×Addr)}
set_option maxHeartbeats 800000 in
theorem kE (hc:X.calm=true) (ok:ZB4) (aq:∀ x c,cl.lookup x=some c->X.env.cells.lookup x=some c) (aB:∀ y∈sc.names,y.2=.free->∃ c,cl.lookup y.1=some c)
  (F:∀ cl C s₂ H2 fp,PG (ff X sc N' cl C s₂ H2 fp) tg g/\PTs (ff X sc N' cl C s₂ H2 fp) ifs tc/\PE (ff X sc N' cl C s₂ H2 fp) elt te)
  {pins:List (Addr×Obj)}{σ:St}{H:Hp}{s₂:Shared}{J:It}{fp:Zq}{it:Addr}{tn:Nat->Heap->Prop}(I:Inv X pins σ H s₂) (T:Turn X.prog X.w X.K tg J fp it tn) (t0:tn 0 s₂.heap) (Y:∀ b∈fp,Z33)
  {Q:VK}(h:je J k g tc te σ H Q) {RR:Value->Addr->Result->Shared->Prop}
  (aA:∀ acc C H' s' G,Inv X pins σ H' s'->s'.heap.Ns C G->s₂.heap.objs.size<=C->H' C=none->Q Zt H'->RR Zt C (.ok .next) s') :
  wpAny Z3 X.A (newList []) (λ acc au=>wpAny Z3 X.A (newFunctionEnv sc X.env.globals cl [] X.env.qual none .none (some X.env)) (λ ab av=>
   codeAny Z3 X.A (.compStart Z01 0 Z1_ acc { ab with scope:=relabel sc X.env }) (RR acc ab.locals) av) X.xe au) X.xe s₂:=by
 refine Hr (wpAny_newFunctionEnv ok.nocell (by intro y hy;simp at hy) (λ h₁ Z D=>?_) ok.kind)
 dsimp only at Z D ⊢
 generalize ai:s₂.heap.push { cls:=.type "list",dict:=none,data:=.seq ([]:List Value).toArray }=L at Z D ⊢
 have hC:L.objs.size=s₂.heap.objs.size+1:=by rw[<- ai,Heap.size_push]
 have ao:s₂.heap.objs.size≠L.objs.size:=by rw[hC];exact F1 ZCW
 have a6:s₂.heap.objs.size<=L.objs.size:=by rw[hC];exact HZ _
 have al:∀ b o,s₂.heap.get? b=some o->h₁.get? b=some o:=λ b o e=>D.extBut b o ZM2 (Heap.get?_push_of_some _ (ai ▸ Heap.get?_push_of_some _ e))
 have ap:h₁.get? s₂.heap.objs.size=some { cls:=.type "list",data:=.seq #[] 0 }:=D.extBut _ _ ao (Heap.get?_push_of_some _ (ai ▸ Heap.get?_push_size _ rfl))
 have aj:∀ b∈fp,∃ o,s₂.heap.get? b=some o:=λ b F=>let ⟨o,e,_⟩:=T.obj 0 _ t0 b F;⟨o,e⟩
 obtain⟨W,⟨m0,w0⟩,af⟩:=h s₂.heap.objs.size I.fresh
 obtain⟨hg,ht,he⟩:=F cl L.objs.size s₂ H fp
 have J0:Inv (ff X sc N' cl L.objs.size s₂ H fp) [] (σ++List.replicate k none) (upd H s₂.heap.objs.size Zr) { s₂ with heap:=h₁,toks:=s₂.toks+([]:List (Str×Value)).length }:=
  wD ok aq aB I Y aj Z9 a6 (Ne.symm ao) Z al ap
 have ah:∀ {a4:List (Addr×Obj)} {H':Hp},a4=[]->(∀ b∈fp,H' b=none)->∀ b∈fp,kA (ff X sc N' cl L.objs.size s₂ H fp) a4 H' b:=λ{a4 H'} hp hn b F=>by
  subst hp
  refine⟨hn b F,?_,?_,.inl F,λ x c e=>(ZH2).2.2.2.2.1 x c (aq x c e),λ p hp=>absurd (show p∈([]:List (Addr×Obj)) from hp) Z8⟩
  ·obtain⟨o,e⟩:=aj b F
   exact ZM2
  ·intro z
   rcases FR.mp (I.mJ b z) with q|q
   ·exact(ZH2).2.1 q
   ·exact(ZH2).2.2.1 q
 let S:=ff X sc N' cl L.objs.size s₂ H fp
 let N:Nat->Shared->Prop:=λ n s'=>∃ i aw ys H',Inv S [] aw H' s'/\tn i s'.heap/\(∀ b∈fp,H' b=none)/\W i n aw ys H'
 have a7:∀ {E':Value->Shared->Prop} (x:Value) (s':Shared),False->E' x s':=λ _ _ z=>z.elim
 have ag:∀ {i n:Nat} {B:St} {ys:List V} {O:Hp} {s3:Shared} {R:Shared->Prop} {E':Value->Shared->Prop},Inv S [] B O s3->tn i s3.heap->(∀ b∈fp,O b=none)->J.go i O ->
   (∀ x an,J.yld i O x an->g x B an λ aa H4=>tc aa H4 λ b H5=>if b=true then te aa H5 λ v H6=>H6 s₂.heap.objs.size=some Zb/\∃ G,G<n/\W (i+1) G aa (ys++[v]) (upd H6 s₂.heap.objs.size (.lst (ys++[v]))) else ∃ G,G<n/\W (i+1) G aa ys H5) ->
   (∀ (pl:List (Addr×Obj)) (j:St) (H6:Hp) (s6:Shared),Inv S pl j H6 s6->(∀ {a9:St} {H7:Hp} {s7:Shared},Inv S pl a9 H7 s7->Inv S [] a9 H7 s7/\tn (i+1) s7.heap/\∀ b∈fp,H7 b=none) ->
    (tc j H6 λ b H5=>if b=true then te j H5 λ v H6=>H6 s₂.heap.objs.size=some Zb/\∃ G,G<n/\W (i+1) G j (ys++[v]) (upd H6 s₂.heap.objs.size (.lst (ys++[v]))) else ∃ G,G<n/\W (i+1) G j ys H5)->R s6) ->
   wpAny Z3 X.A Z4u (λ r s4=>∃ u,r=some u/\wpAny Z3 X.A Z4m (λ _ s5=>wpAny Z3 X.A (assign tg S.env u) (λ _ s6=>R s6) E' s5) E' s4) E' s3:=by
  intro i n B ys O s3 R E' I3 a0 U go a2 ay
  refine GL (T.item S rfl rfl rfl hc i [] s3 B O E' I3 (ah rfl U) a0 go) ZHu λ _ _ z=>z
  obtain⟨u,hr,h4⟩:=hr
  refine⟨u,hr,GL h4 (λ _ s5 h5=>?_) λ _ _ z=>z⟩
  obtain⟨x,H5,I5,r5,y5,am,az⟩:=h5
  have ax:=I5.pinned (ah rfl az) (T.obj _ _ am)
  refine GL (hg _ s5 B H5 x u _ ax r5 (a2 x H5 y5)) (λ _ s6 h6=>?_) a7
  obtain⟨j,H6,I6,q6⟩:=h6
  refine ay _ j H6 s6 I6 (λ{a9 H7 s7} I7=>?_) q6
  refine⟨I7.i9,T.keep _ _ _ am λ b F o e=>(I7.pin (b,o) ZDg).1,λ b F=>?_⟩
  obtain⟨o,e,d⟩:=T.obj _ _ am b F
  exact(I7.pin (b,o) ZDg).2.1
 have ar:∀ {i n:Nat} {pl:List (Addr×Obj)} {j:St} {ys:List V} {H7:Hp} {s7:Shared} {E':Value->Shared->Prop},ys.length<sizeLine->Inv S pl j H7 s7 ->
   (∀ {a9:St} {H7:Hp} {s7:Shared},Inv S pl a9 H7 s7->Inv S [] a9 H7 s7/\tn (i+1) s7.heap/\∀ b∈fp,H7 b=none) ->
   (te j H7 λ v H6=>H6 s₂.heap.objs.size=some Zb/\∃ G,G<n/\W (i+1) G j (ys++[v]) (upd H6 s₂.heap.objs.size (.lst (ys++[v])))) ->
   wpAny Z3 X.A ZHy (λ x s8=>wpAny Z3 X.A (call (.builtin "list.append") [.ref s₂.heap.objs.size,x]) (λ _ s9=>∃ m,m<n/\N m s9) E' s8) E' s7:=by
  intro i n pl j ys H7 s7 E' a1 I7 M q7
  refine GL (he _ s7 j H7 _ I7 q7) (λ y s8 h8=>?_) a7
  obtain⟨v,H8,I8,r8,a8,G,hm,w8⟩:=h8
  refine GL (dA (X:=S) _ s8 j H8 (.ref s₂.heap.objs.size) [v] _ _ (λ _ H9=>H9=upd H8 s₂.heap.objs.size (.lst (ys++[v]))) I8 rfl (.cons r8 .nil) ⟨_,ys,v,rfl,rfl,a8,a1,rfl⟩) (λ _ s9 h9=>?_) a7
  obtain⟨_,H9,I9,_,rfl⟩:=h9
  obtain⟨b1,b2,b3⟩:=M I9
  exact⟨G,hm,i+1,j,ys++[v],_,b1,b2,b3,w8⟩
 have ae:∀ {i:Nat} {B:St} {O:Hp} {s3:Shared} {E':Value->Shared->Prop},Inv S [] B O s3->tn i s3.heap->(∀ b∈fp,O b=none)->J.stop i O->Q (.ref s₂.heap.objs.size) O ->
   wpAny Z3 X.A Z4u (λ r s4=>r=none/\RR (.ref s₂.heap.objs.size) L.objs.size (.ok .next) s4) E' s3:=by
  intro i B O s3 E' I3 a0 U a3 q
  refine GL (T.done S rfl rfl rfl hc i [] s3 B O E' I3 (ah rfl U) a0 a3) (λ r s4 hr=>⟨hr.1,?_⟩) λ _ _ z=>z
  have I4:=hr.2
  have IX:Inv X pins σ O s4:=I.D8 I4.os I4.base I4.hok I4.bare λ b F=>⟨(ZH2).2.2.2.1,(ZH2).2.1,(ZH2).2.2.2.2.1,(ZH2).2.2.2.2.2⟩
  obtain⟨G,aC,_⟩:=I4.loc
  exact aA _ _ O s4 G IX aC a6 I4.free q
 let EE:Value->Shared->Prop:=notedBy Z3 X.A S.env λ e s'=>RR (.ref s₂.heap.objs.size) L.objs.size (.error e) s'
 have a5:N m0 { s₂ with heap:=h₁,toks:=s₂.toks+([]:List (Str×Value)).length }:=by
  refine⟨0,_,[],_,J0,Z6i,λ b F=>?_,w0⟩
  obtain⟨o,e⟩:=aj b F
  rw[cz Z8x]
  exact(ZH2).1
 have ad:codeAny Z3 X.A (.compLoop Z01 0 Z1_ (.ref s₂.heap.objs.size) S.env) (RR (.ref s₂.heap.objs.size) L.objs.size) { s₂ with heap:=h₁,toks:=s₂.toks+([]:List (Str×Value)).length }:=by
  rcases ht with ⟨rfl,ht⟩|⟨c,rfl,ht⟩
  ·refine PySem.W.kcp_loop N ZHv m0 a5
   obtain⟨i,B,ys,O,I3,a0,U,w3⟩:=hI
   rcases af i n B ys O w3 with ⟨a3,q⟩|⟨go,a1,a2⟩
   ·refine Z4k
    obtain⟨rfl,hr⟩:=hr
    exact hr
   ·refine GL (ag I3 a0 U go a2 (λ pl j H6 s6 I6 M q6=>ar (E':=EE) a1 I6 M (by simpa using ht j H6 _ q6))) (λ r s4 hr=>?_) λ _ _ z=>z
    obtain⟨u,rfl,h4⟩:=hr
    exact h4
  ·refine PySem.W.kct_loop N ZHv m0 a5
   obtain⟨i,B,ys,O,I3,a0,U,w3⟩:=hI
   rcases af i n B ys O w3 with ⟨a3,q⟩|⟨go,a1,a2⟩
   ·refine Z4k
    obtain⟨rfl,hr⟩:=hr
    exact hr
   ·refine GL (ag (R:=λ s6=>wpAny Z3 X.A (isTrue c S.env (eval c S.env)) (λ ak s7=>if ak=true then wpAny Z3 X.A ZHy (λ x s8=>wpAny Z3 X.A (call (.builtin "list.append") [.ref s₂.heap.objs.size,x]) (λ _ s9=>∃ m,m<n/\N m s9) EE s8) EE s7 else ∃ m,m<n/\N m s7) EE s6) I3 a0 U go a2 (λ pl j H6 s6 I6 M q6=>GL (E':=EE) (ht _ s6 j H6 _ I6 q6) (λ ak s7 h7=>?_) a7)) ZHu λ _ _ z=>z
    ·obtain⟨H7,I7,q7⟩:=h7
     cases ak with
     | false=>
      obtain⟨G,hm,w7⟩:=q7
      obtain⟨b1,b2,b3⟩:=M I7
      exact⟨G,hm,i+1,j,ys,H7,b1,b2,b3,w7⟩
     | true=>exact ar (E':=EE) a1 I7 M q7
    ·obtain⟨u,rfl,h4⟩:=hr
     exact h4
 exact codeAny_compStart_list ad (T.self _ 0 _ _ _ Z6i ad)
theorem dH (N':ZT) (k:Nat) (hc:X.calm=true) (hi:ZAH)
  (hb:∀ cl C s₂ H2 fp,PG (ff X sc N' cl C s₂ H2 fp) tg g/\PTs (ff X sc N' cl C s₂ H2 fp) ifs tc/\PE (ff X sc N' cl C s₂ H2 fp) elt te)
  (hk:kf X.N X.env.scope sc N' k=true:=by rfl) (hs:∀ x,foldedSetIterable iter X.env x=pure x:=by intro _;rfl) :
  PE X Z01 ZHI:=by
 intro pins s σ H Q I h
 have ok:=jt.of hk
 obtain⟨cl,e,hcl,hfr⟩:=Z2V
 rw[eval_ListComp]
 refine wpAny_comprehension_free (use:=none) rfl hs e ok.kind ok.names Z0a
 obtain⟨it,fp,tn,J,H2,rfl,I2,T,st2,f2,R⟩:=h2
 refine kE (RR:=λ acc C=>compPost Z3 X.A X.xe none Z09 acc C) hc ok hcl hfr hb I2 T st2 f2 R ?_
 intro acc C H' s' m' I' hn hC hfree q
 refine⟨m',hn,λ h'' hs''=>⟨Zt,H',?_,rfl,q⟩⟩
 have z:=ZKZ
 exact I'.turned (t':=s'.toks) (λ b o hb e=>hs''.extBut b o hb e) hfree z.2.1 z.2.2.2.1 z.2.2.2.2.1 z.2.2.2.2.2
theorem fF (N':ZT) (k:Nat) {i:Nat}{y:Str}{py spos:Pos}(hc:X.calm=true) (hN:X.N.Nodup) (hj:X.N[i]? = some y) (hx:Loc X.env.scope y) (hi:ZAH)
  (hb:∀ cl C s₂ H2 fp,PG (ff X sc N' cl C s₂ H2 fp) tg g/\PTs (ff X sc N' cl C s₂ H2 fp) ifs tc/\PE (ff X sc N' cl C s₂ H2 fp) elt te)
  (hsw:swapsWith Z01 (some ZHG) spos.line X.env=pure true:=by rfl)
  (hk:kf X.N X.env.scope sc N' k=true:=by rfl) (hs:∀ x,foldedSetIterable iter X.env x=pure x:=by intro _;rfl)
  (hf:X.fn y=true\/X.env.scope.names.lookup y=some .local:=by first|exact .inl rfl|exact .inr rfl|assumption) :
  PS X (.Assign [ZHG] Z01 spos) (zt ZHI (eh i)):=by
 intro pins s σ H D I h
 have ok:=jt.of hk
 obtain⟨cl,e,hcl,hfr⟩:=Z2V
 rw[exec_Assign_Name_used _ _ _ _ hsw]
 refine FI (IA Z3V)
 show wpAny _ X.A (do let _ <- comprehension Z01 sc X.env _ (newList []) false ZHL Z3M) _ _ s
 refine FI (GL (wpAny_comprehension_free (use:=Z3M) (Q:=λ _ s'=>ZEu) rfl hs e ok.kind ok.names
  Z0a) (λ _ s' hq=>FN (FN hq)) λ _ _ e=>e)
 obtain⟨it,fp,tn,J,H2,rfl,I2,T,st2,f2,R⟩:=h2
 refine kE (RR:=λ acc C=>compPost Z3 X.A X.xe Z3M (λ _ s'=>ZEu) acc C) hc ok hcl hfr hb I2 T st2 f2 R ?_
 intro acc C H' s' m' I' hn hC hfree q
 show wpAny _ X.A (assign ZHG X.env Zt) _ _ _
 refine wpAny_assign_Name (lW (v:=Zt) I' hN hj hx rfl (λ s'' I'' ch=>?_) hf)
 have z:=ZKZ
 obtain⟨a,sb,ha⟩:=ch
 have hCa:C≠a:=by
  rcases ha with ha|ha
  ·rw[ha];exact z.2.1
  ·exact Ne.symm (z.2.2.2.2.1 y a ha)
 refine⟨m',hn.sameBut sb hCa,λ h₃ hs₃=>⟨_,H',?_,q⟩⟩
 exact I''.turned (t':=s''.toks) (λ b o hb e=>hs₃.extBut b o hb e) hfree z.2.1 z.2.2.2.1 z.2.2.2.2.1 z.2.2.2.2.2
end
theorem dm.there {P:Program}{w:World}{H:Hp}{h:Heap}{a:Addr}{o:HO}(x:ZBP):∃ ob,h.get? a=some ob:=by
 cases o with
 | lst xs=>obtain⟨_,_,_,_,e⟩:=x;exact Z2y
 | tup xs=>obtain⟨_,_,_,o,e,_⟩:=x;exact Z2y
 | dK kvs=>obtain⟨_,_,_,_,o,_,_,e,_⟩:=x;exact Z2y
 | dT kvs=>obtain⟨_,_,_,_,o,_,_,e,_⟩:=x;exact Z2y
 | set S n=>obtain⟨o,_,_,_,e,_⟩:=x;exact Z2y
 | ins C dx fs=>obtain⟨_,_,_,e,_⟩:=x;exact Z2y
 | own y=>obtain⟨_,e⟩:=x;exact Z2y
 | xd fs=>obtain⟨_,⟨_,_,_,e,_⟩,_⟩:=x;exact Z2y
 | rng lo hi=>obtain⟨_,_,_,e⟩:=x;exact Z2y
 | frz ob u=>obtain⟨e,_⟩:=x;exact Z2y
 | tbl ps=>exact⟨_,(show h.get? a=some _ from x)⟩
 | met f y=>exact⟨_,(show h.get? a=some _ from x)⟩
 | ext φ=>obtain⟨_,e,_⟩:=x;exact e
theorem HOk.there (x:Z0c) (n:H a≠none):∃ j,h.get? a=some j:=by
 cases q:H a with
 | none=>exact absurd q n
 | some u=>exact(x a u q).there
def Cov (B:Heap) (l:Z4A) (H':Hp) (h0 h:Heap):Prop:=∀ b o,h.get? b=some o->b∉frs l->(H' b≠none\/h0.get? b≠none)->B.get? b=some o
structure Air (P:Program) (w:World) (l:List Env) (H:Hp) (s:Shared) (H':Hp) (a:Addr) (cls:Value) (s':Shared):Prop where
 os:s'.os=s.os
 bare:ZJL
 un:Un (frs l) [] H H' s.heap s'.heap
 hok:HOk P w H' s'.heap
 new:s.heap.get? a=none
 fly:∃ B a0,Heap.FlyingW B l a cls a0 s'.heap/\Cov B l H' s.heap s'.heap
def CXr (P:Program) (w:World):CXT:=λ l H s E e s'=>∃ a cls H',e=.ref a/\Air P w l H s H' a cls s'/\H' a=none/\E cls none H'
abbrev ER0:XK:=λ _ _ _=>False
theorem cH:Passes ZM X ER0:=λ _ _ _ _ _ _ _ h=>by
 obtain⟨_,_,_,_,_,_,z⟩:=h
 exact z.elim
section
variable {P:Program}{w:World}{B:Heap}{l:List Env}{H H':Hp}{h0 h h':Heap}
end
section
variable {X:Cx}{pins:List (Addr×Obj)}{σ:St}{H H':Hp}{s s':Shared}{a:Addr}{cls:Value}
theorem Inv.vN (I:Z7):∀ b∈frs X.stack,∃ o,s.heap.get? b=some o:=λ b hb=>let ⟨_,o,e,_⟩:=I.stack.mem hb;⟨o,e⟩
theorem Air.free (A:Air X.prog X.w X.stack H s H' a cls s') (I:Z7):∀ b∈frs X.stack,H' b=none:=λ b hb=>by
 obtain⟨o,e⟩:=I.vN b hb
 exact A.un.free b o e (I.m6 b hb) Z8
end
section
variable {P:Program}{w:World}{K:PySem.W.Frag}{mg:Str->Option Value}{base:Heap}{N:List Str}{qual:Str}{scope:Scope}{f:Addr}{cd:Value}{A:Around}{outer:List Env}{s₀:Shared}{H₀:Hp}{E:XK}
end
section
variable {K:PySem.W.Frag}{h:Heap}{C:Addr}{bmB:List Value}{newId:String}
end
noncomputable abbrev zk:Zh:=[.type "ValueError",.type "Exception",.type "BaseException",.type "object"]
def FC (K:PySem.W.Frag) (C:Addr):Prop:=PySem.W.excIn K C zk "ValueError.__new__" = true
section
variable {P:Program}{w:World}{K:PySem.W.Frag}{mg:Str->Option Value}{base:Heap}{N:List Str}{qual:Str}{scope:Scope}{f:Addr}{cd:Value}{A:Around}{outer:List Env}{s₀:Shared}{H₀:Hp}{E:XK}
end
section
variable {P:Program}{w:World}{K:PySem.W.Frag}{mg:Str->Option Value}{base:Heap}
theorem Fun.okN {x qual:Str}{st:Stmt}{f:Addr}{fd:FuncData}{N ps:ZT}{k:Nat}{sp:Sp}(F:ZEy) (S:cM N ps Z57) (I:∀ vs H Q E,sp vs H Q E->vs.length=ps.length)
  (z:∀ (j:Value) (A:Around) (outer:List Env) (s:Shared) (H:Hp) (vs:List V) (Q:VK) (E:XK),eV k (A.deeper (envOfC qual Z57 s.heap.objs.size f j))->sp vs H Q E ->
   ∃ t,PSs (mG ZM P w K mg base N qual Z57 f j A outer s H E).nox ZDF t/\t { nx:=λ _ H'=>ZIw,rt:=Q } Z2B H):dk P w K mg base ZM (k+1) f fd ps sp:=by
 obtain⟨Y,Z,W,J,pm,R,j,U,O,rfl,M,D⟩:=F.ex
 refine Cn M D S I λ A outer s H vs Q E L G=>?_
 obtain⟨t,h,q⟩:=z j A outer s H vs Q E L G
 exact⟨t,h.nox,q⟩
end
noncomputable abbrev TX:=St->Hp->VK->XK->Prop
section
variable {X:Cx}{k:Nat}{f C:Addr}{fd:FuncData}{ps:List Str}{sp:Sp}{x m:Str}{p pos apos:Pos}{e o:Expr}{es:List Expr}{ta:TE}{t:TA}
end
noncomputable def Ax (a:Addr) (cls:Value):HO:=.ext λ h=>∃ oe vs,h.get? a=some oe/\oe.cls=cls/\oe.data=.fields vs
section
variable {X:Cx}{pins:List (Addr×Obj)}{σ:St}{H:Hp}{s:Shared}{e:Value}
end
section
variable {X:Cx}{pins:List (Addr×Obj)}{σ:St}{Hc H':Hp}{sc s':Shared}{a:Addr}{cls a0:Value}{B h':Heap}
end
section
variable {X:Cx}{e:Expr}{x n:Str}{np p2 pos hpos:Pos}{b₀:Stmt}{suite:List Stmt}{tx:TX}{ts:TS}{c:Value}{i:Nat}
end
open PySem PySem.W PySem.Spec PySem.Calls PyProof.Rows Builtin.Getset_descriptor
section
variable {prog:Program}{w:World}{A:Around}{E:Value->Shared->Prop}{s:Shared}{K:Frag}{x D:Addr}{ox:Obj}
structure tX (K:Frag) (D:Addr):Prop where
 ga:findIn K Z6p "__getattribute__" = some (some (.builtin "BaseException.__getattribute__"))
 gb:findIn K Z6p "__getattr__" = some none
 ha:findIn K Z6p "__class__" = some (some (.builtin "object.__class__"))
 hn:specialIn K (.builtin "object.__class__") "__get__" = some (some (.builtin "getset_descriptor.__get__"))
 htk:takesIn K (.builtin "object.__class__")=some true
 hm:mroIn K D (.type "object")=some true
 hb:mroIn K D (.type "BaseException")=some true
structure ExcAt (h:Heap) (x D:Addr):Prop where
 ex:∃ o vs,h.get? x=some o/\o.cls=.ref D/\o.data=.fields vs
theorem ExcAt.type (I:ExcAt h x D):Looks M h (typeOf Z2b) Z6p:=by
 obtain⟨o,j,e,c,_⟩:=I.ex
 exact c ▸ ((Looks.ld e).andThen .now)
theorem vT (T:tX K D) (j:K.In h):Looks M h (Builtin.ObjectAttr.find Z2b Z6p "__class__") (.bind (.builtin "getset_descriptor.__get__") (.builtin "object.__class__")):=by
 refine(looks_findIn (M:=M) j T.ha).andThen ((looks_specialIn (M:=M) j T.hn).andThen ?_)
 have q:Looks M h (Builtin.ObjectAttr.dataDescriptor? (some (.builtin "object.__class__")) (some (.builtin "getset_descriptor.__get__"))) (some (.builtin "getset_descriptor.__get__",.builtin "object.__class__")):=
  (looks_takesIn (M:=M) j T.htk).andThen (by rw[Z1X];exact Looks.now)
 exact q.andThen (Looks.tag .now)
theorem xR (T:tX K D) (j:Z2d) (I:ZHt) (h:R (.ok (.ret Z6p)) s) :
  codeAny ZF A (.call (.builtin "getset_descriptor.__get__") ⟨[.builtin "object.__class__",.ref x,tp],[]⟩) R s:=by
 obtain⟨o,O,e,c,G⟩:=I.ex
 obtain⟨J,g,F,t,L⟩:=s
 have q:=ZJ7
 have z:=looks_mroIn (M:=Z3m) j T.hm
 refine HS KF.slot_gs.plain KF.entry_gs (KF.slot_gs.check _ _ _ _ _ _ _ _ KF.type_class (KF.args_gs _ _ _) ?_)
 unfold Builtin.«getset_descriptor.__get__» descrGet
 rw[dga_obj]
 refine Z6v
 unfold descrGetter descrCheckInstance descrNameAndClass isInstance
 simp only[KF.owner_class]
 repeat lk
 refine⟨Code.quiet_builtin _ (by decide +kernel),GN KF.entry_class ?_⟩
 unfold Builtin.«object.__class__» shownTypeOf
 repeat lk
 exact h
theorem sC {Q:Option Value->Shared->Prop}(T:tX K D) (kin:Z2d) (I:ZHt) (h:Q (some Z6p) { s with toks:=s.toks+1 }):wpAny ZF A (getAttr? Z2b "__class__") Q E s:=by
 obtain⟨hh,g,d,t,os⟩:=s
 have look1:=ZJ7
 have look2:=looks_findIn (M:=Z3m) kin T.ga
 have look3:=looks_findIn (M:=Z3m) kin T.gb
 have look4:Looks ZF hh (isInstance Z2b (.type "BaseException")) true:=look1.andThen (looks_mroIn (M:=Z3m) kin T.hb)
 have look5:=vT (M:=Z3m) (x:=x) T kin
 unfold getAttr? getAttrBy? getAttrBy
 refine FI (wpAny_mkText (FI (IB (Gp (FI (look1.at (FI (look2.at ?_))))))))
 show wpAny _ _ (getAttrByItsOwn _ _ _ _ _ _) _ _ _
 unfold getAttrByItsOwn hookBefore
 refine FI (look3.at (FI (IB (Gp ?_))))
 show wpAny _ _ (boundAndCalled _ _ _) _ _ _
 unfold boundAndCalled
 refine FI (G9 (PySem.F.attr_ValueError.ga.bind Z2b) (IJ (HS PySem.F.attr_ValueError.ga.plain PySem.F.entry_bexc_ga ?_)))
 have kind:builtinKind "BaseException.__getattribute__" = some .slot:=by decide +kernel
 have parts:splitId "BaseException.__getattribute__" = some ("BaseException","__getattribute__"):=by decide +kernel
 simp only[checkBuiltinCall,kind,parts]
 have fits:=PySem.F.args_bexc_ga Z2b (.str "__class__" t)
 refine FI (look4.at ?_)
 simp only[Ij,Ge,Hb]
 repeat (any_goals (first|assumption|wp_step))
 obtain⟨o,vs,e,c,dt⟩:=I.ex
 refine wpAny_loadPart_at e ?_
 rw[c]
 refine FN (FI (look5.at ?_))
 dsimp only
 show wpAny _ _ (holding [Value.builtin "object.__class__"] (call (.builtin "getset_descriptor.__get__") [.builtin "object.__class__",.ref x,.ref D]) >>= ret) _ _ _
 refine FI (Gp (IJ (xR (s:=⟨hh,g,d,t+1,os⟩) T kin ⟨o,vs,e,c,dt⟩ ?_)))
 exact FN (FN (FN h))
theorem vt (T:tX K D):KitX K Z2b Z6p (λ h=>ExcAt h x D) where
 ty:=λ _ _ _ I=>I.type
 it:=λ _ h kin _=>by
  obtain⟨cd,a,_⟩:=Z8f
  revert a
  unfold clsIn
  split
  ·rename_i look
   intro _ A' Q' E' s' k q
   unfold isType loadHead
   exact FI (wpAny_loadPart (k _ _ (kin _ _ look)) (FN q))
  ·intro a;cases a
 ne:=λ h tp dd its n sl kin htp=>by
  obtain⟨cd,a,_⟩:=Z8f
  refine Bool.eq_false_iff.mpr λ q=>?_
  obtain rfl:D=tp:=Value.ref.inj (HK.mp q)
  revert a
  unfold clsIn
  split
  ·rename_i look
   intro _
   have z:=(kin _ _ look).symm.trans htp
   cases z
  ·intro a;cases a
 ca:=λ kin I k=>sC T kin I k
end
theorem p5 (I:Z7) (e:H a=some ZHT) (T:tX X.K C)
  (k:kitOne X.K Z0U c=some b) (h:∀ tk,Q ZAz { s with toks:=tk }):wpAny Z3 A (call (.builtin "isinstance") [Z_,c]) Q E s:=by
 obtain⟨⟨G,J,F,j,q⟩,_⟩:=(show dm X.prog X.w H s.heap a ZHT from Z7b)
 exact kia_one (vt T) I.kIn ⟨G,J,F,j,q⟩ k (λ z=>nomatch z) h
mutual
inductive Rp (K:PySem.W.Frag) (H:Hp):V->PyData->Prop
 | non:Rp K H .non .none
 | bl (b:Bool):Rp K H Z5t ZAz
 | int (i:Int):Rp K H Z08 Z08
 | str (x:Str):Rp K H Z6o Z6o
 | lst {a:Addr} {vs:Z04} {ds:ZF_}:SqL K H a vs->eF K H vs ds->Rp K H Z_ (.list ds)
 | tup {a:Addr} {vs:Z04} {ds:ZF_}:SqT K H a vs->eF K H vs ds->Rp K H Z_ (.tuple ds)
inductive eF (K:PySem.W.Frag) (H:Hp):List V->List PyData->Prop
 | nil:eF K H [] []
 | cons {v:V} {vs:Z04} {d:PyData} {ds:ZF_}:Rp K H v d->eF K H vs ds->eF K H (v::vs) (d::ds)
end
section
variable {X:Cx}{pins:List (Addr×Obj)}{σ:St}{H:Hp}{s:Shared}
mutual
theorem Rp.reads (I:Z7):∀ {x:V}{d:PyData}{u:Value},Rp X.K H x d->RelV x u->∃ as,Reads s.heap u d as
 | _,_,u,.non,r=>by cases (show u=Value.none from r);exact⟨_,.none⟩
 | _,_,u,.bl b,r=>by cases (show u=Value.bool b from r);exact⟨_,.bool b⟩
 | _,_,u,.int i,r=>by obtain⟨t,rfl⟩:=(show ∃ t,u=Value.int i t from r);exact⟨_,Z9n⟩
 | _,_,u,.str x,r=>by obtain⟨t,rfl⟩:=(show ∃ t,u=Value.str x t from r);exact⟨_,ZM6⟩
 | _,_,u,@Rp.lst _ _ a vs ds q all,r=>by
  cases (show u=Value.ref a from r)
  obtain⟨its,rv,pl,_⟩:=I.list q
  obtain⟨as,ra⟩:=ZGy
  obtain⟨o,n,e,c,_,d⟩:=pl
  exact⟨_,.list e c d (by simpa using ra)⟩
 | _,_,u,@Rp.tup _ _ a vs ds q all,r=>by
  cases (show u=Value.ref a from r)
  obtain⟨its,rv,pl,_⟩:=I.tuple q
  obtain⟨as,ra⟩:=ZGy
  obtain⟨o,e,c,n,d⟩:=pl
  exact⟨_,.tuple e c d (by simpa using ra)⟩
theorem eF.reads (I:Z7):∀ {xs:List V}{ds:List PyData}{us:List Value},eF X.K H xs ds->Vals xs us->∃ as,ReadsAll s.heap us ds as
 | _,_,_,.nil,.nil=>⟨_,.nil⟩
 | _,_,_,.cons p ps,.cons r rs=>by
  obtain⟨as,h1⟩:=Rp.reads I p r
  obtain⟨bs,h2⟩:=eF.reads I ps rs
  exact⟨_,.cons h1 h2⟩
end
end
inductive pW (K:PySem.W.Frag) (neg:Bool) (x:V) (y:V) (H:Hp) (Q:VK):Prop
 | mk:∀ d e,Rp K H x d->Rp K H y e->SeqAt.shaped d=true->SeqAt.shaped e=true->Q (.bl (if neg then !PyData.eqv d e else PyData.eqv d e)) H->pW K neg x y H Q
section
variable {X:Cx}
theorem Ad (j:X.A.units+64<cLine):OpR X ZAl (pW X.K false):=by
 intro pins s σ H x y v u Q I L M h
 obtain⟨d,e,z,F,O,R,q⟩:=h
 obtain⟨_,G⟩:=z.reads I L
 obtain⟨_,J⟩:=F.reads I M
 exact eq_dataH G J O R j ⟨.bl (PyData.eqv d e),H,I,rfl,q⟩
theorem zF (j:X.A.units+64<cLine):OpR X Z8E (pW X.K true):=by
 intro pins s σ H x y v u Q I L M h
 obtain⟨d,e,z,F,O,R,q⟩:=h
 obtain⟨_,G⟩:=z.reads I L
 obtain⟨_,J⟩:=F.reads I M
 exact ne_dataH G J O R j ⟨.bl (!PyData.eqv d e),H,I,rfl,q⟩
inductive TyX (K:PySem.W.Frag) (H:Hp):V->Value->Prop
 | plain {x:V} {t:Value}:jv K H x t->TyX K H x t
 | exc {a C:Addr}:H a=some ZHT->tX K C->TyX K H Z_ Z0U
def zS (K:PySem.W.Frag):List V->Hp->VK->Prop:=λ xs H Q=>match xs with
 | [x,.ty T]=>∃ t b,TyX K H x t/\PySem.W.kitOne K t Z2Z=some b/\Q Z5t H
 | [x,.ref C]=>∃ t b,TyX K H x t/\PySem.W.kitOne K t Z0U=some b/\Q Z5t H
 | _=>False
theorem oa:eG X (.builtin "isinstance") (zS X.K):=by
 intro pins s σ H xs M Q I r h
 have L:∀ {x:V} {z c t:Value} {b:Bool},RelV x z->TyX X.K H x t->PySem.W.kitOne X.K t c=some b->Q Z5t H->wpAny Z3 X.A (call (.builtin "isinstance") [z,c]) Z09 X.xe s:=by
  intro x z c t b j ty k q
  have F:∀ tk,EP X pins σ Q ZAz { s with toks:=tk }:=λ tk=>⟨.bl b,H,I.tok tk,rfl,q⟩
  cases ty with
  | plain ty=>exact su I j ty k F
  | exc e T=>
   cases (show z=Value.ref _ from j)
   exact p5 I e T k F
 unfold zS at h
 split at h
 ·obtain⟨t,b,ty,k,q⟩:=h
  obtain⟨z,J,rfl,j,G⟩:=ZIJ
  cases (show J=Value.type _ from G)
  exact L j ty k q
 ·obtain⟨t,b,ty,k,q⟩:=h
  obtain⟨z,J,rfl,j,G⟩:=ZIJ
  cases (show J=Value.ref _ from G)
  exact L j ty k q
 ·exact h.elim
theorem mh (q:Z99) (h:∃ t,X.mg x=some Z9n) (j:(x == ("__debug__" :ZBp))=false:=by decide):PE X Z2O ZMR:=by
 obtain⟨t,h⟩:=h
 exact w5 q h Z7N j
theorem iq (K) (t):PySem.W.kitOne K t t=some true:=by
 unfold PySem.W.kitOne
 rw[FX (Jv t)]
structure xb (K:PySem.W.Frag) (C:Addr):Prop where
 ha:PySem.W.findIn K Z0U "__class__" = some (some (.builtin "object.__class__"))
 hn:PySem.W.specialIn K (.builtin "object.__class__") "__get__" = some (some (.builtin "getset_descriptor.__get__"))
 ht:PySem.W.takesIn K (.builtin "object.__class__")=some true
 hm:PySem.W.mroIn K C (.type "object")=some true
end
structure MkO (K:PySem.W.Frag) (C:Addr):Prop where
 makes:PySem.W.makesIn K C=true
 init:PySem.W.findIn K Z0U "__init__" = some (some (.builtin "object.__init__"))
 kp:PySem.W.keepIn K Z0U=true
def zV (C:Addr):TE:=λ _ H Q=>∀ x dx,H x=none->H dx=none->dx≠x->Q Z2b Z6y
section
variable {X:Cx}{C:Addr}{x:Str}{p pos:Pos}
theorem nO (M:MkO X.K C) (R:Z99) (S:X.mg x=some Z0U) (G:(x == ("__debug__" :ZBp))=false:=by decide):PE X (.Call Z7o [] [] pos) (zV C):=by
 intro pins s σ H Q I h
 refine HJ (j4 I R S ?_ G)
 refine PySem.W.callWith_K0 I.kIn M.kp ?_
 have O:=ZHB
 have U:=h (s.heap.objs.size+1) s.heap.objs.size ZHS Z1p (F1 ZCW)
 refine IJ (tP I.kIn M.makes M.init (λ z=>PySem.W.Looks.of_pure (PySem.W.oi_bind z)) ?_)
 obtain⟨j,g,d,t,V⟩:=s
 have F:(Z0e).get? (j.objs.size+1)=some (Z9T):=by
  have:=Heap.get?_push_size (j.push PySem.W.emptyDict) (o:=Z9T) rfl
  rwa [Heap.size_push] at this
 have q:PySem.W.Looks Z3 Z0e (typeOf (.ref (j.objs.size+1))) Z0U:=(PySem.W.Looks.ld F).andThen .now
 have L:=(Kf (M:=model X.prog X.w) I.kIn M.makes).top
 have J:PySem.W.Looks Z3 Z0e (isInstance (.ref (j.objs.size+1)) (.type "object")) true:=
  q.andThen (L.keeps λ b o e=>Z4T)
 refine HS PySem.W.oi_plain PySem.W.entry_oi (@PySem.W.check_slot Z3 _ _ _ _ _ _ _ [] [] _ PySem.W.oi_kind PySem.W.oi_split J (PySem.W.oi_args _) ?_)
 rw[PySem.W.oi_run]
 exact FN ⟨rfl,.ref (j.objs.size+1),_,O,rfl,U⟩
end
section
variable {X:Cx}{K:PySem.W.Frag}{a b e o value l:Expr}{es:List Expr}{f name:Str}{pos pos' apos cpos:Pos}{ta tb tv tl to:TE}{t:TA}{tg:Expr}
theorem cK (z:PE X e ta) (q:attributeBase e f X.env (Z0Q)=eval e X.env) (j:X.K=K:=by rfl):PE X Z72 (nh K ta f):=j ▸ Al z q
theorem dj (q:ZE6) (z:ZCm) (hs:swapsWith value (some Z4Z) pos.line X.env=pure false) (j:X.K=K:=by rfl):PS X ZBo (z9 K ta tv f):=j ▸ zX q z hs
theorem dD (q:ZIy) (j:X.K=K:=by rfl):PI X tg l (qS K tl):=j ▸ xp q
theorem xv (q:ZIy) (j:X.K=K:=by rfl):PI X tg l (AL K tl):=j ▸ zz q
theorem cP (j:X.K=K:=by rfl):IxR X Z9H:=j ▸ xy
theorem dq (j:X.K=K:=by rfl):IxR X (x8 K):=j ▸ zy
theorem oj (j:X.K=K:=by rfl):SlR X (zJ K):=j ▸ wV
theorem uU (j:X.K=K:=by rfl):OpR X ZJg (rIn K false):=j ▸ tH
theorem jC (j:X.K=K:=by rfl):OpR X Z8D (rIn K true):=j ▸ mR
theorem eG.mono (h:eG X fn r) (m:∀ xs H Q,r' xs H Q->r xs H Q):eG X fn r':=λ _ _ _ _ _ _ _ I v q=>h _ _ _ _ _ _ _ I v (m _ _ _ q)
inductive CH (K:PySem.W.Frag) (xs:List V) (H:Hp) (Q:VK):Prop
 | mk:∀ p ys,xs=[Zs]->(SqL K H p ys\/SqT K H p ys)->Q Z7_ H->CH K xs H Q
theorem fh (j:X.K=K:=by rfl):eG X (.builtin "len") (CH K):=j ▸ m9.mono λ _ _ _ ⟨p,ys,a,b,c⟩=>ZHc
inductive rP (K:PySem.W.Frag) (xs:List V) (H:Hp) (Q:VK):Prop
 | mk:∀ p ys,xs=[Zs]->(SqL K H p ys\/SqT K H p ys)->(∀ l,H l=none->Q Zg ZET)->rP K xs H Q
theorem kr (j:X.K=K:=by rfl):eG X (.type "list") (rP K):=j ▸ m7.mono λ _ _ _ ⟨p,ys,a,b,c⟩=>ZHc
inductive om (K:PySem.W.Frag) (xs:List V) (H:Hp) (Q:VK):Prop
 | mk:∀ p ys,xs=[Zs]->((SqL K H p ys/\∀ l,H l=none->Q Zg ZMO)\/(SqT K H p ys/\Q Zs H))->om K xs H Q
theorem pF (j:X.K=K:=by rfl):eG X (.type "tuple") (om K):=j ▸ lG.mono λ _ _ _ ⟨p,ys,a,b⟩=>⟨p,ys,a,b⟩
theorem mK (q:X.A.units+64<cLine) (j:X.K=K:=by rfl):OpR X ZAl (pW K false):=j ▸ Ad q
theorem jm (q:X.A.units+64<cLine) (j:X.K=K:=by rfl):OpR X Z8E (pW K true):=j ▸ zF q
theorem fU (j:X.K=K:=by rfl):eG X (.builtin "isinstance") (zS K):=j ▸ oa
theorem eJ (z:X.calm=true) (h:PGs X es u) (F:(Z2c).length=n:=by rfl) (j:(Z2c).findIdx? (·.1)=none:=by rfl) (q:X.K=K:=by rfl):PG X ZHa (z0 K n u):=q ▸ Aa z h F j
def Fz (K:PySem.W.Frag) (ta:TE):TT:=λ σ H Q=>ta σ H λ x H'=>ud K Q x H'
theorem sA (ha:Z3B) (he:∀ whole,isTrue a X.env whole=(do let v <- whole;standAt a.pos;holding [v] ZCJ)) (hK:X.K=K:=by rfl):PT X a (Fz K ta):=hK ▸ t9 ha he
variable {T id:String}{r:V->List V->Hp->VK->Prop}
theorem mE (L:Z95) (z:Z7C) (F:typeOf Z14=pure (.type "method_descriptor")) (I:ZC6) (J:ZAI)
  (j:attributeBase o name X.env Z3i=eval o X.env:=by rfl) (q:(apos.endLine == cpos.line)=true:=by rfl) (G:X.K=K:=by rfl):PE X ZDi (AZ K T r to):=G ▸ zv L z F I J j q
theorem dQ (R:Z95) (G:Z7C) (I:typeOf Z14=pure (.type "method_descriptor")) (M:ZC6) (O:ZAI) (L:PA X (e::es) t)
  (q:attributeBase o name X.env Z3i=eval o X.env:=by rfl)
  (F:((backTo cpos (starEach (e::es) X.env)).all (λ x=>!x.1) && (Z8a).all Z88
   && decide ((e::es).length+([]:Z96).length+(if ([]:List Keyword).isEmpty then 0 else 1)<30))=true:=by rfl)
  (z:(apos.endLine == cpos.line)=true:=by rfl) (hs:starEach (e::es) X.env=(false,Z0Q)::starEach es X.env:=by rfl) (j:(Z3S).any (·.1)=false:=by rfl) (J:X.K=K:=by rfl) :
  PE X (.Call Z2v (e::es) [] cpos) (tBM K T r to t):=J ▸ Dx R G I M O L q F z hs j
end
theorem eA {k:Bool}{A B:Prop}(h:k=false) (j:B):if k=true then A else B:=by rw[h];exact fG j
theorem gE {k:Bool}{A B:Prop}(h:k=true) (j:A):if k=true then A else B:=by rw[h];exact fC j
theorem cG.new (h:H p=none):cG H (upd H p o):=λ b u e=>by rw[cz (cB e h)];exact e
theorem cG.tup {K:PySem.W.Frag}{H H':Hp}{a:Addr}{xs:Z04}(e:Z1t) (h:ZE1):SqT K H' a xs:=by
 rcases h with (h|⟨o,h⟩)|h
 ·exact ZER
 ·exact ZAb
 ·exact ZAZ
mutual
theorem Rp.same {K:PySem.W.Frag}{H H':Hp}(e:Z1t):∀ {v:V}{d:PyData},Rp K H v d->Rp K H' v d
 | _,_,.non=>.non
 | _,_,.bl b=>.bl b
 | _,_,.int i=>Z08
 | _,_,.str x=>.str x
 | _,_,.lst q a=>.lst (e.seq q) ZM_
 | _,_,.tup q a=>.tup (e.tup q) ZM_
theorem eF.same {K:PySem.W.Frag}{H H':Hp}(e:Z1t):∀ {vs:List V}{ds:List PyData},eF K H vs ds->eF K H' vs ds
 | _,_,.nil=>.nil
 | _,_,.cons p ps=>.cons (p.same e) (eF.same e ps)
end
mutual
noncomputable def noDict:PyData->Bool
 | .none=>true
 | .bool _=>true
 | .int _=>true
 | .str _=>true
 | .list xs=>noDicts xs
 | .tuple xs=>noDicts xs
 | .dict _=>false
noncomputable def noDicts:List PyData->Bool
 | []=>true
 | x::xs=>noDict x && noDicts xs
end
mutual
theorem kY:∀ {d:PyData},noDict d=true->PyData.eqv d d=true
 | .none,_=>by simp[PyData.eqv]
 | .bool _,_=>by simp[PyData.eqv]
 | .int _,_=>by simp[PyData.eqv]
 | .str _,_=>by simp[PyData.eqv]
 | .list xs,h=>by rw[PyData.eqv];exact ie (by simpa [noDict] using h)
 | .tuple xs,h=>by rw[PyData.eqv];exact ie (by simpa [noDict] using h)
 | .dict _,h=>by simp[noDict] at h
theorem ie:∀ {ds:List PyData},noDicts ds=true->PyData.eqvAll ds ds=true
 | [],_=>by simp[PyData.eqvAll]
 | x::xs,h=>by
  rw[noDicts,Hg] at h
  rw[PyData.eqvAll,kY h.1,ie h.2]
  rfl
end
theorem cG.ins (q:H x=none) (j:H dx=none):cG H (upd (upd H dx Z4w) x o):=λ b u e=>by
 rw[cz (cB e q),cz (cB e j)];exact e
end L2
namespace SetT
open PySem PySem.SetTable
noncomputable def lcg (M x:Nat):Nat:=(x*5+1)%M
noncomputable def orb (M:Nat):Nat->Nat->Nat
 | 0,x=>x
 | n+1,x=>orb M n ZJc
theorem j0 (M):∀ (a b x:Nat),orb M (a+b) x=orb M b (orb M a x)
 | 0,b,x=>by rw[Iq];rfl
 | a+1,b,x=>by rw[Nat.add_right_comm];exact j0 M a b ZJc
noncomputable def xU (M:Nat):Nat->Nat->List Nat
 | 0,_=>[]
 | n+1,x=>x::xU M n ZJc
theorem pk:∀ {n x y:Nat},y∈xU M n x->∃ a,a<n/\orb M a x=y
 | 0,_,_,h=>by simp[xU] at h
 | n+1,x,y,h=>by
  rcases FR.mp h with rfl|h
  ·exact⟨0,Z1,rfl⟩
  ·obtain⟨a,j,e⟩:=pk h
   exact⟨a+1,Z1,e⟩
noncomputable def jD (M:Nat):Bool:=((List.range M).all λ y=>(xU M M 0).contains y) && orb M M 0 == 0
theorem cover (h:jD M=true) (J:x<M) (L:y<M):∃ n,n<M/\orb M n x=y:=by
 unfold jD at h
 rw[Hg,HX,HK] at h
 obtain⟨all,q⟩:=h
 have j:∀ z,z<M->∃ a,a<M/\orb M a 0=z:=λ z O=>pk (by simpa using all z (HL.mpr O))
 obtain⟨a,R,F⟩:=j x J
 obtain⟨b,S,G⟩:=j y L
 by_cases I:a<=b
 ·refine⟨b-a,Z1,?_⟩
  rw[<- F,<- j0,show a+(b-a)=b by lia]
  exact G
 ·refine⟨b+M-a,Z1,?_⟩
  rw[<- F,<- j0,show a+(b+M-a)=M+b by lia,j0,q]
  exact G
inductive Pow:Nat->Prop
 | p8:Pow 8
 | p16:Pow 16
 | p32:Pow 32
 | p64:Pow 64
 | p128:Pow 128
 | p256:Pow 256
theorem Pow.round (h:Pow M):jD M=true:=by cases h<;>decide +kernel
theorem Pow.pos (h:Pow M):8<=M/\M<=256:=by cases h<;>decide
noncomputable def at_ (mask:Nat):Nat->Nat->Nat->Nat×Nat
 | 0,i,p=>(i,p)
 | s+1,i,p=>Z5B
theorem vS (mask):∀ (a b i p:Nat),at_ mask (a+b) i p=at_ mask b (ZKQ).1 (ZKQ).2
 | 0,b,i,p=>by rw[Iq];rfl
 | a+1,b,i,p=>by rw[Nat.add_right_comm];exact vS mask a b _ _
theorem rS (mask):∀ (s i p:Nat),(Z7B).2=p/32 ^ s
 | 0,i,p=>by simp[at_]
 | s+1,i,p=>by
  show (Z5B).2=_
  rw[rS mask s]
  show p/32/32 ^ s=_
  rw[Nat.div_div_eq_div_mul,Nat.pow_succ,Nat.mul_comm]
theorem uJ {mask:Nat}:∀ (s i:Nat),i<mask+1->(at_ mask s i 0).1=orb (mask+1) s i
 | 0,i,_=>rfl
 | s+1,i,h=>by
  show (at_ mask s (ZLL).1 (ZLL).2).1=_
  have e:leap mask i 0=(lcg (mask+1) i,0):=by
   unfold leap lcg
   simp
  rw[e]
  exact uJ s _ ZJ5
theorem wB {mask:Nat}:∀ (s i p:Nat),i<mask+1->(Z7B).1<mask+1
 | 0,i,p,h=>h
 | s+1,i,p,h=>wB s _ _ ZJ5
theorem reach {mask i p f:Nat}(j:Pow (mask+1)) (hi:i<mask+1) (F:p<2 ^ 64) (q:f<mask+1):∃ s,s<turns mask/\(Z7B).1=f:=by
 obtain⟨n,G,e⟩:=cover j.round ZKo q
 refine⟨13+n,by unfold turns;lia,?_⟩
 rw[vS]
 have z:(at_ mask 13 i p).2=0:=by
  rw[rS]
  exact Nat.div_eq_of_lt (F9 F Z4)
 rw[z,uJ _ _ ZKo]
 exact e
theorem mj {mask:Nat}{owner:ZFh}:∀ {fuel i p:Nat},layClean.free mask owner fuel i p=none->∀ s,s<fuel->owner.getD (Z7B).1 ZMS≠none
 | 0,_,_,_,s,j=>Z1
 | fuel+1,i,p,h,s,j=>by
  unfold layClean.free at h
  split at h
  ·cases h
  ·rename_i q
   cases s with
   | zero=>
    intro z
    have:=List.find?_eq_none.mp q 0 (HL.mpr (by unfold runEnd;split<;>lia))
    rw[Kb] at this
    have F:owner.getD i ZMS=none:=z
    rw[F] at this
    exact this rfl
   | succ s=>exact mj (fuel:=fuel) h s Z1
theorem my {mask:Nat}{owner:ZFh}:∀ {fuel i p j:Nat},layClean.free mask owner fuel i p=some j->owner.getD j ZMS=none
 | 0,_,_,_,h=>by simp[layClean.free] at h
 | fuel+1,i,p,j,h=>by
  unfold layClean.free at h
  split at h
  ·rename_i k q
   cases h
   have:=List.find?_some q
   simpa using this
  ·exact my (fuel:=fuel) h
theorem xI {mask:Nat}{owner:ZFh}{i p f:Nat}(F:Pow (mask+1)) (hi:i<mask+1) (I:p<2 ^ 64) (G:f<mask+1) (e:owner[f]? = some none):∃ j,layClean.free mask owner Z9G i p=some j/\owner[j]? = some none:=by
 cases q:layClean.free mask owner (turns mask) i p with
 | none=>
  obtain⟨s,J,es⟩:=reach F hi I G
  have:=mj q s J
  rw[es] at this
  exact absurd (by rw[Im,e];rfl) this
 | some j=>
  refine⟨j,rfl,?_⟩
  have:=my q
  rw[Im] at this
  cases z:owner[j]? with
  | none=>rw[z] at this;cases this
  | some o=>rw[z] at this;rw[show o=none from this]
theorem wg:∀ (l:List (Option Nat)) (j v:Nat),l[j]? = some none->((l.set j Z3h).filterMap id).Perm (v::l.filterMap id)
 | [],j,v,h=>by simp at h
 | x::l,0,v,h=>by
  have:x=none:=by simpa using h
  subst this
  simp
 | x::l,j+1,v,h=>by
  have q:=wg l j v (by simpa using h)
  cases x with
  | none=>simpa using q
  | some y=>
   show (y::(l.set j Z3h).filterMap id).Perm (v::y::l.filterMap id)
   exact(q.cons y).trans (List.Perm.swap v y _)
theorem rH:∀ (l:List (Option Nat)),(l.filterMap id).length<l.length->∃ j,j<l.length/\l[j]? = some none
 | [],h=>by simp at h
 | none::l,_=>⟨0,Ze,rfl⟩
 | some y::l,h=>by
  obtain⟨j,q,e⟩:=rH l (by simpa using h)
  exact⟨j+1,by simpa using q,by simpa using e⟩
theorem oI {mask:Nat}(hM:Pow (mask+1)):∀ (hs:List Int) (owner:Array (Option Nat)) (k:Nat),owner.size=mask+1->(Z50).Perm (List.range k)->k+hs.length<=mask ->
  ∃ owner',hs.foldl (λ(acc:Option (Array (Option Nat)×Nat)) h=>do
    let (owner,k) <- acc
    let j <- layClean.free mask owner Z9G (bits h%(mask+1)) ZDJ
    pure (Z0n,k+1)) (some (owner,k))=some (owner',k+hs.length)/\owner'.size=mask+1/\(owner'.toList.filterMap id).Perm (List.range (k+hs.length))
 | [],owner,k,hs,hp,_=>⟨owner,rfl,hs,hp⟩
 | h::hs,owner,k,hsz,hp,hk=>by
  have hlen:(Z50).length<owner.toList.length:=by
   rw[hp.length_eq,Il,F3,hsz]
   simp only[GF] at hk
   lia
  obtain⟨f,hf,ef⟩:=rH _ hlen
  obtain⟨j,ej,fj⟩:=xI (mask:=mask) (owner:=owner) (i:=bits h%(mask+1)) (p:=bits h) (f:=f) hM ZJ5
   (by unfold bits;have:=GR h (b:=2 ^ 64) Z4;have:=He h (b:=2 ^ 64) Z4;lia) (by rw[F3,hsz] at hf;exact hf) (by rw[<- Gz];exact ef)
  have step:(do
    let (owner,k) <- some (owner,k)
    let j <- layClean.free mask owner Z9G (bits h%(mask+1)) ZDJ
    pure (Z0n,k+1):Option (Array (Z5K)×Nat))=some (Z0n,k+1):=by
   show (layClean.free mask owner Z9G (bits h%(mask+1)) ZDJ).bind _=_
   rw[ej]
   rfl
  rw[List.foldl_cons,step]
  have hp':((Z0n).toList.filterMap id).Perm (List.range (k+1)):=by
   rw[Array.toList_setIfInBounds]
   refine(wg _ j k (by rw[Gz];exact fj)).trans ?_
   rw[Kl]
   exact(hp.cons k).trans (List.perm_append_singleton k _).symm
  obtain⟨o',e',s',p'⟩:=oI hM hs Z0n (k+1) (by rw[Array.size_setIfInBounds];exact hsz) hp' (by simp only[GF] at hk;lia)
  refine⟨o',?_,s',?_⟩
  ·rw[e'];simp only[GF];congr 2;lia
  ·rw[show k+(h::hs).length=k+1+hs.length by simp only[GF];lia];exact p'
theorem nT {mask:Nat}(j:Pow (mask+1)) {hs:Array Int}(F:hs.size<=mask):∃ owner,layClean mask hs=some owner/\owner.size=mask+1/\(Z50).Perm ZF7:=by
 have z:((Array.replicate (mask+1) (none:Z5K)).toList.filterMap id).Perm (List.range 0):=by
  rw[Array.toList_replicate]
  have:∀ n,((List.replicate n (none:Z5K)).filterMap id)=[]:=by
   intro n;induction n with
   | zero=>rfl
   | succ n q=>rw[List.replicate_succ];simpa using q
  rw[this]
  exact Z4R
 obtain⟨o,e,s,p⟩:=oI j hs.toList (Array.replicate (mask+1) none) 0 Z8 z (by rw[F3];lia)
 rw[Iq,F3] at e p
 refine⟨o,?_,s,p⟩
 unfold layClean
 rw[<- Array.foldl_toList,e]
 rfl
structure iQ (t:SetTable) (n:Nat):Prop where
 size:t.place.size=n
 up:t.place.toList.Pairwise (· < ·)
 clean:t.dummies = #[]
 few:n<=t.mask
theorem iQ.fits (r:Z91):t.fits n=true:=by
 unfold SetTable.fits fill
 rw[r.size,r.clean]
 simp[r.few]
theorem qQ {mask finger moves:Nat}{led plain:Bool}(R:Pow (mask+1)) {hs:Array Int}(O:hs.size<=mask):∃ t F,laid mask finger moves led plain hs=some (t,F)/\iQ t hs.size/\t.mask=mask/\t.led=led/\t.plain=plain/\F.toList.Perm ZF7:=by
 obtain⟨z,e,V,p⟩:=nT R O
 have G:((List.range (mask+1)).filterMap λ j=>(Z30).map (j,·)).map (·.2)=z.toList.filterMap id:=by
  rw[List.map_filterMap]
  have:(λ j=>((Z30).map ((j:Nat),·)).map (·.2))=λ j=>id (Z30):=by
   funext j
   cases z.getD j none<;>rfl
  rw[this]
  show List.filterMap (id ∘ λ j=>Z30) _=_
  rw[<- List.filterMap_map]
  congr 1
  apply List.ext_getElem
  ·simp[V]
  ·intro i h1 h2
   simp[Im] 
   rw[Gn (by simpa using h2)]
   rfl
 have L:(((List.range (mask+1)).filterMap λ j=>(Z30).map (j,·)).map (·.1)).Pairwise (· < ·):=by
  rw[List.map_filterMap,List.pairwise_filterMap]
  refine(List.pairwise_lt_range (n:=mask+1)).imp λ{a b} h x I y J=>?_
  have S:x=a:=by
   cases q:z.getD a none with
   | none=>rw[q] at I;cases I
   | some v=>rw[q] at I;exact(Option.some.inj I).symm
  have U:y=b:=by
   cases q:z.getD b none with
   | none=>rw[q] at J;cases J
   | some v=>rw[q] at J;exact(Option.some.inj J).symm
  rw[S,U];exact h
 have M:((List.range (mask+1)).filterMap λ j=>(Z30).map (j,·)).length=hs.size:=by
  have:=congrArg List.length G
  rw[FO,p.length_eq,Il] at this
  exact this
 unfold laid
 rw[e]
 refine⟨_,_,rfl,⟨?_,?_,rfl,O⟩,rfl,rfl,rfl,?_⟩
 ·simpa using M
 ·simpa using L
 ·show (((List.range (mask+1)).filterMap λ j=>(Z30).map (j,·)).map (·.2)).toArray.toList.Perm _
  rw[List.toList_toArray,G]
  exact p
theorem m8 {xs:ZJK}(h:xs.toList.Pairwise (· < ·)) {i k:Nat}{x y:Nat}(j:i<k) (hi:xs[i]? = some x) (q:xs[k]? = some y):x<y:=by
 rw[<- Gz] at hi q
 obtain⟨h1,z⟩:=ZM0
 obtain⟨h2,F⟩:=ZJE
 have:=Iu.mp h i k h1 h2 j
 rw[z,F] at this
 exact this
theorem kP {xs:ZJK}(h:xs.toList.Pairwise (· < ·)) {j:Nat}:∀ (fuel lo hi:Nat),hi-lo<=fuel->lo<=hi->hi<=xs.size->(∀ i x,i<lo->xs[i]? = some x->x<j)->(∀ i x,hi<=i->xs[i]? = some x->j<=x) ->
  below.go xs j fuel lo hi<=xs.size/\(∀ i x,i<below.go xs j fuel lo hi->xs[i]? = some x->x<j)/\∀ i x,below.go xs j fuel lo hi<=i->xs[i]? = some x->j<=x
 | 0,lo,hi,hf,M,J,h1,h2=>by
  have e:lo=hi:=Z1
  subst e
  exact ZL4
 | fuel+1,lo,hi,hf,M,J,h1,h2=>by
  unfold below.go
  by_cases G:lo<hi
  ·rw[FX G]
   have O:(lo+hi)/2<xs.size:=Z1
   have F:xs[(lo+hi)/2]? = some xs[(lo+hi)/2]:=Gn O
   have I:xs.getD ((lo+hi)/2) j=xs[(lo+hi)/2]:=by rw[Im,F];rfl
   by_cases z:xs.getD ((lo+hi)/2) j<j
   ·rw[ZJC]
    refine kP h fuel _ _ Z1 Z1 J (λ i x L e=>?_) h2
    by_cases q:i=(lo+hi)/2
    ·subst q;rw[F] at e;cases e;rw[I] at z;exact z
    ·have:=m8 h (show i<(lo+hi)/2 by lia) e F
     rw[I] at z;lia
   ·rw[ZJD]
    refine kP h fuel _ _ Z1 Z1 Z1 h1 λ i x L e=>?_
    by_cases q:i=(lo+hi)/2
    ·subst q;rw[F] at e;cases e;rw[I] at z;lia
    ·have:=m8 h (show (lo+hi)/2<i by lia) F e
     rw[I] at z;lia
  ·rw[FV G]
   have e:lo=hi:=Z1
   subst e
   exact ZL4
theorem gK (h:xs.toList.Pairwise (· < ·)) (j):below xs j<=xs.size/\(∀ i x,i<below xs j->xs[i]? = some x->x<j)/\∀ i x,below xs j<=i->xs[i]? = some x->j<=x:=by
 unfold below
 exact kP h xs.size 0 xs.size Z1 Z1 Z1 (λ i x hi=>Z1) λ i x hi e=>by
  have:=ZFz
  lia
theorem sJ {t:SetTable}{n:Nat}(r:Z91) {j:Nat}(J:j∈t.place.toList):t.slot j≠.empty:=by
 obtain⟨m,e⟩:=IY.mp J
 rw[Gz] at e
 obtain⟨M,G,I⟩:=gK r.up j
 have q:t.place[Z1Y]? = some j:=by
  by_cases L:m<below t.place j
  ·have:=G m j L e;lia
  ·by_cases F:m=below t.place j
   ·rw[<- F];exact e
   ·have z:below t.place j<t.place.size:=by have:=ZFz;lia
    have g:=Gn z
    have h1:=m8 r.up (show below t.place j<m by lia) g e
    have h2:=I _ _ Z9 g
    lia
 unfold slot
 simp[q]
theorem iz (r:Z91) (h:t.slot j≠.empty):j∈t.place.toList/\∃ i,t.slot j=.live i:=by
 unfold slot at h ⊢
 dsimp only at h ⊢
 split at h
 ·rename_i q
  have z:t.place[Z1Y]? = some j:=by simpa using q
  rw[<- Gz] at z
  refine⟨FT z,Z1Y,?_⟩
  rw[ZKb]
 ·have:has t.dummies j=false:=by unfold has;rw[r.clean];simp
  rw[this] at h
  simp at h
theorem wt:∀ (n:Nat) (l:List Nat),(∀ f,f<n->f∈l)->n<=l.length
 | 0,_,_=>Z8g
 | n+1,l,h=>by
  have j:=h n Z1
  have q:=wt n (l.erase n) λ f z=>(List.mem_erase_of_ne Z1).mpr (h f Z1)
  rw[ZB6] at q
  have:0<l.length:=ZC8
  lia
theorem pX (r:Z91):∃ f,f<t.mask+1/\f∉t.place.toList:=by
 refine Classical.byContradiction λ z=>?_
 have all:∀ f,f<t.mask+1->f∈t.place.toList:=λ f j=>Classical.byContradiction λ q=>z ⟨f,j,q⟩
 have:=wt _ _ all
 rw[F3,r.size] at this
 have:=r.few
 lia
noncomputable def win (mask i pt:Nat):Probe:={ j:=i,more:=runEnd mask i-i,i:=i,perturb:=pt,dummy:=none }
theorem ni (mask i):runEnd mask i-i<=9:=by unfold runEnd;split<;>lia
theorem l7 (r:Z91):∀ (m fuel:Nat) (p:Probe),p.more=m->p.dummy=none->m<fuel->probe.go t (λ _=>h+1) h fuel p=none ->
  t.slot p.j≠.empty/\probe.go t (λ _=>h+1) h (fuel-(m+1)) (win t.mask (Z2U).1 (Z2U).2)=none:=by
 intro m
 induction m with
 | zero=>
  intro fuel p L G J q
  obtain⟨fuel,rfl⟩:∃ k,fuel=k+1:=⟨fuel-1,Z1⟩
  unfold probe.go at q
  by_cases z:t.slot p.j=.empty
  ·rw[z] at q;cases q
  ·refine⟨z,?_⟩
   obtain⟨_,i,F⟩:=iz r z
   rw[F] at q
   dsimp only at q
   rw[FV (by simp;lia)] at q
   have e:t.advance p=win t.mask (Z2U).1 (Z2U).2:=by
    unfold advance win
    rw[ZCu]
    simp[G]
   rw[e] at q
   simpa using q
 | succ m M=>
  intro fuel p L G J q
  obtain⟨fuel,rfl⟩:∃ k,fuel=k+1:=⟨fuel-1,Z1⟩
  unfold probe.go at q
  by_cases z:t.slot p.j=.empty
  ·rw[z] at q;cases q
  ·refine⟨z,?_⟩
   obtain⟨_,i,F⟩:=iz r z
   rw[F] at q
   dsimp only at q
   rw[FV (by simp;lia)] at q
   have e:t.advance p={ p with j:=p.j+1,more:=p.more-1 }:=by
    unfold advance
    rw[Z9V]
   rw[e] at q
   have:=(M fuel { p with j:=p.j+1,more:=p.more-1 } (by show p.more-1=m;lia) G Z1 q).2
   have I:fuel+1-(m+1+1)=fuel-(m+1):=Z1
   rw[I]
   exact this
theorem mq (r:Z91):∀ (s fuel i j:Nat),10*(s+1)<=fuel->probe.go t (λ _=>h+1) h fuel Z9Z=none->t.slot (at_ t.mask s i j).1≠.empty
 | 0,fuel,i,j,hf,q=>(l7 r _ fuel Z9Z rfl rfl (by have:=ZFK;show runEnd t.mask i-i<fuel;lia) q).1
 | s+1,fuel,i,j,hf,q=>by
  have h1:=(l7 r _ fuel Z9Z rfl rfl (by have:=ZFK;show runEnd t.mask i-i<fuel;lia) q).2
  exact mq r s _ _ _ (by have:=ZFK;show 10*(s+1)<=fuel-(runEnd t.mask i-i+1);lia) h1
theorem jS (r:Z91):∀ (fuel:Nat) (p:Probe) (m:Met),p.dummy=none->probe.go t (λ _=>h+1) h fuel p=some m->∃ j,m=.empty j none/\t.slot j=.empty
 | 0,p,m,_,q=>by simp[probe.go] at q
 | fuel+1,p,m,hd,q=>by
  unfold probe.go at q
  by_cases z:t.slot p.j=.empty
  ·rw[z] at q
   dsimp only at q
   cases q
   rw[hd]
   exact⟨p.j,rfl,z⟩
  ·obtain⟨_,i,F⟩:=iz r z
   rw[F] at q
   dsimp only at q
   rw[FV (by simp;lia)] at q
   refine jS r fuel _ m ?_ q
   unfold advance
   split<;>exact hd
theorem nR (r:Z91) (F:Pow (t.mask+1)) (h):∃ j,t.freeSlot h=some (j,false)/\j∉t.place.toList:=by
 have G:bits h<2 ^ 64:=by unfold bits;have:=GR h (b:=2 ^ 64) Z4;have:=He h (b:=2 ^ 64) Z4;lia
 have st:t.probeStart h=win t.mask (bits h%(t.mask+1)) ZDJ:=rfl
 unfold freeSlot probe
 rw[st]
 cases q:probe.go t (λ _=>h+1) h (10*turns t.mask) (win t.mask (bits h%(t.mask+1)) (bits h)) with
 | none=>
  obtain⟨f,I,L⟩:=pX r
  obtain⟨s,M,es⟩:=reach F (JT ZDJ (show 0<t.mask+1 by lia)) G I
  have:=mq r s _ _ _ Z1 q
  rw[es] at this
  exact absurd (iz r this).1 L
 | some m=>
  obtain⟨j,rfl,z⟩:=jS r _ _ m rfl q
  exact⟨j,rfl,λ J=>sJ r J z⟩
theorem Pow.of (h:[8,16,32,64,128,256].contains n=true):Pow n:=by
 have:n=8\/n=16\/n=32\/n=64\/n=128\/n=256:=by simpa using h
 rcases this with rfl|rfl|rfl|rfl|rfl|rfl
 ·exact .p8
 ·exact .p16
 ·exact .p32
 ·exact .p64
 ·exact .p128
 ·exact .p256
theorem i6 (h:n<256):Pow ZMT/\n<sizeAbove n:=by
 have all:((List.range 256).all λ n=>[8,16,32,64,128,256].contains ZMT && decide (n<sizeAbove n))=true:=by decide +kernel
 have:=HX.mp all n (HL.mpr h)
 rw[Hg,HR] at this
 exact⟨Pow.of this.1,this.2⟩
structure Good (t:SetTable) (n:Nat):Prop where
 rise:Z91
 pow:Pow (t.mask+1)
 plain:t.plain=true
 slack:n*5<t.mask*3
theorem Good.fits (g:Good t n):t.fits n=true:=g.rise.fits
theorem qb (f m) (led):Good (SetTable.fresh f m led) 0:=⟨⟨rfl,by simp[SetTable.fresh],rfl,by simp[SetTable.fresh]⟩,.p8,rfl,by simp[SetTable.fresh]⟩
theorem zO (r:Z91) (O:j∉t.place.toList) (R:n+1<=t.mask) :
  iQ (Z8V).1 (n+1)/\(Z8V).1.mask=t.mask/\(Z8V).1.plain=t.plain/\(Z8V).1.led=t.led:=by
 obtain⟨S,J,L⟩:=gK r.up j
 have M:has t.dummies j=false:=by unfold has;rw[r.clean];simp
 refine⟨⟨?_,?_,?_,R⟩,rfl,rfl,rfl⟩
 ·show (ZDS).size=n+1
  rw[<- F3,(insertAt_perm t.place Z1Y j).length_eq,Ke,FQ,F3,r.size]
  rfl
 ·show (ZDS).toList.Pairwise (· < ·)
  rw[toList_insertAt]
  have F:∀ x,x∈t.place.toList.take (Z1Y)->x<j:=λ x G=>by
   obtain⟨i,e⟩:=IY.mp G
   have hi:i<below t.place j:=by
    have:=ZG2
    rw[Gu] at this
    lia
   rw[IE hi,Gz] at e
   exact J i x hi e
  have q:∀ x,x∈t.place.toList.drop (Z1Y)->j<x:=λ x G=>by
   obtain⟨i,e⟩:=IY.mp G
   rw[List.getElem?_drop,Gz] at e
   have h1:=L _ x (Jx _ _) e
   have h2:j≠x:=λ z=>O (by rw[z];exact List.mem_of_mem_drop G)
   lia
  rw[Hd]
  refine⟨r.up.sublist (Kc _ _),?_,λ x G y I=>?_⟩
  ·rw[Ie]
   exact⟨q,r.up.sublist (List.drop_sublist _ _)⟩
  ·rcases FR.mp I with rfl|I
   ·exact F x G
   ·exact J9 (F x G) (q y I)
 ·show (if has t.dummies j then _ else t.dummies) = #[]
  rw[M]
  simpa using r.clean
theorem sF (g:ZKa) (h) (x) :
  ∃ es' t',layNew t es h x=(es',t',false,false)/\es'.toList.Perm (es.toList++[(h,x)])/\iQ t' es'.size/\t'.mask=t.mask/\t'.plain=true/\t'.led=t.led:=by
 have I:es.size+1<=t.mask:=by have:=g.slack;have:=g.pow.pos;lia
 obtain⟨j,e,M⟩:=nR g.rise g.pow h
 obtain⟨F,L,O,J⟩:=zO g.rise M I
 have q:=layNew_perm t es h x
 rw[Ke] at q
 unfold layNew at q ⊢
 rw[e] at q ⊢
 dsimp only at q ⊢
 have z:(insertAt es (Z8V).2 (h,x)).size=es.size+1:=by
  rw[<- F3,q.length_eq,FQ,F3];rfl
 have G:(Z8V).1.fits (insertAt es (Z8V).2 (h,x)).size=true:=by rw[z];exact F.fits
 refine⟨_,(Z8V).1,?_,q,by rw[z];exact F,L,O.trans g.plain,J⟩
 unfold orStandIn
 rw[G]
 rfl
theorem vz {es:Array (Int×Value)}{j:ZJK}(p:j.toList.Perm ZF8):(j.filterMap (es[·]?)).toList.Perm es.toList:=by
 rw[Array.toList_filterMap]
 refine(p.filterMap _).trans ?_
 rw[filterMap_getElem?_range]
theorem lP {t:SetTable}{es:Array (Int×Value)}{wanted:Nat}(F:wanted<256) (I:es.size<=wanted) (z:t.plain=true) :
  ∃ t' j,t.relaid (es.map (·.1)) wanted=some (t',j)/\iQ t' es.size/\Pow (t'.mask+1)/\t'.plain=true/\t'.led=t.led/\wanted<=t'.mask/\t'.mask=sizeAbove wanted-1/\j.toList.Perm ZF8:=by
 obtain⟨P,J⟩:=i6 F
 have q:sizeAbove wanted-1+1=sizeAbove wanted:=Z1
 obtain⟨t',j,e,r,m,l,G,p⟩:=qQ (mask:=sizeAbove wanted-1) (finger:=t.finger) (moves:=t.movedTo (sizeAbove wanted-1)) (led:=t.led) (plain:=t.plain) (by rw[q];exact P) (hs:=es.map (·.1)) (by rw[IV];lia)
 rw[IV] at r p
 exact⟨t',j,e,r,by rw[m,q];exact P,by rw[G,z],l,by rw[m];lia,m,p⟩
theorem pD {t:SetTable}{es:Array (Int×Value)}{wanted:Nat}(I:wanted<256) (L:es.size*2<=wanted) (G:t.plain=true) (h0:0<es.size) :
  ∃ es' t',relayAll t es wanted=(es',t',false)/\es'.toList.Perm es.toList/\Good t' es'.size/\t'.led=t.led:=by
 obtain⟨t',j,e,r,P,J,l,M,_,p⟩:=lP (t:=t) (es:=es) I Z1 G
 have q:=vz p
 have F:(j.filterMap (es[·]?)).size=es.size:=by rw[<- F3,q.length_eq,F3]
 have z:coversAll j es.size=true:=List.isPerm_iff.mpr p
 refine⟨j.filterMap (es[·]?),t',?_,q,⟨by rw[F];exact r,P,J,by rw[F];lia⟩,l⟩
 unfold relayAll
 rw[e]
 dsimp only
 rw[z,F,r.fits]
 rfl
noncomputable def ke (e:Int×Value):Int:=match e.2 with
 | .int i _=>i
 | _=>0
def eT (P:Program) (w:World) (h:Heap) (a:Addr) (ks:Zc):Prop:=
 ∃ o es ep t,h.get? a=some o/\o.ExactSet/\o.data=.set es ep t/\ElemsOf Z0b es.toList/\es.toList.map ke=ks/\ks.Nodup/\Good t es.size/\es.size<=63/\(w.params.followText "set-order" = true\/t.led=true)
section
variable {P:Program}{w:World}{A:Around}{E:Value->Shared->Prop}{s:Shared}{a:Addr}{ks:List Int}
theorem eT.few (S:Z1g):ks.length<=63:=by
 obtain⟨o,es,j,t,_,_,_,_,e,_,_,f,_⟩:=S
 rw[<- e,FO,F3];exact f
theorem eT.nodup (S:Z1g):ks.Nodup:=by obtain⟨o,es,j,t,_,_,_,_,e,n,_⟩:=S;exact n
theorem y8 (h:ZM4) (J:e∈l) (k):(Z0b).is k e.2=true↔ke e=k:=by
 obtain⟨⟨F,j,_⟩,_⟩:=h e J
 obtain⟨t,q⟩:=Value.isInt_shape (show Value.isInt F e.2=true from j)
 have I:ke e=F:=by unfold ke;rw[q]
 rw[I]
 constructor
 ·intro z
  obtain⟨M,G⟩:=Value.isInt_shape (show Value.isInt k e.2=true from z)
  rw[q] at G;injection G with L _
 ·rintro rfl;exact j
theorem wb (h:ZM4) (k):(∃ e∈l,(Z0b).is k e.2=true)↔k∈l.map ke:=by
 rw[F2]
 exact⟨λ⟨e,j,q⟩=>⟨e,j,(y8 h j k).mp q⟩,λ⟨e,j,q⟩=>⟨e,j,(y8 h j k).mpr q⟩⟩
theorem stored (z:h.get? a=some o) (q:o.ExactSet) (j:o.data=.set es ep t) :
  (ZKH).get? a=some { o with data:=.set es' (ep+1) t' }/\Heap.SameBut a h (ZKH):=by
 refine⟨?_,Heap.SameBut.update h a _⟩
 have:=Heap.get?_update_self Z7n z (by rw[ZGE];rfl)
 rwa [ZGE] at this
theorem gH (h:n<=64):n<=sizeLine:=Gd h Z4
theorem ua (S:Z35) (af:ks.length<=62)
  (h:∀ b h' a1,Heap.SameBut a s.heap h'->eT P w h' a a1->(∀ y,y∈a1↔y∈ks\/y=k)->a1.length<=ks.length+1->Q b { s with heap:=h' }) :
  wpAny ZY A (setAddHashed a Z9M ZDs) Q E s:=by
 obtain⟨o,es,ep,t,ho,Y,hd,L,O,nd,g,fw,aa⟩:=id S
 have ag:es.size=ks.length:=by rw[<- O,FO,F3]
 have U:(Z0b).is k Z9M=true:=by show Value.isInt k Z9M=true;simp[Value.isInt]
 have hb:es.size<scanBound:=GI fw Z4
 unfold setAddHashed setAddHashedIn
 refine Gp (FI (wpAny_setState_of ho hd g.fits ?_))
 dsimp only
 rw[byScan_of (knd:=Z0b) rfl hb L]
 simp only[↓reduceIte]
 unfold setAddByScan
 refine FI (FI (Ia (FI (wpAny_setScan_of (knd:=Z0b) U ho hd g.fits L ?_))))
 cases hr:List.findIdx? (λ e=>(intKind P w).is k e.2) es.toList with
 | some j=>
  obtain⟨hj,a8,_⟩:=List.findIdx?_eq_some_iff_getElem.mp hr
  have a6:k∈ks:=by rw[<- O];exact(wb L k).mp ⟨_,Kg hj,a8⟩
  refine FN Zi
  exact h false s.heap ks (Heap.SameBut.refl a s.heap) S (λ y=>⟨.inl,λ z=>z.elim id λ e=>e ▸ a6⟩) ZCV
 | none=>
  have a4:k∉ks:=λ z=>by
   rw[<- O] at z
   obtain⟨e,he,q⟩:=(wb L k).mpr z
   have:=List.findIdx?_eq_none_iff.mp hr e he
   rw[q] at this
   cases this
  obtain⟨F,t1,eL,M,J,m1,p1,l1⟩:=sF g ZDs Z9M
  rw[eL]
  dsimp only
  have ae:F.size=es.size+1:=by rw[<- F3,M.length_eq,FQ,F3];rfl
  have a3:ElemsOf Z0b F.toList:=(L.push (k:=k) U rfl).perm M
  have a9:(F.toList.map ke).Perm (ks++[k]):=by
   have:=M.map ke
   rw[F0,O] at this
   exact this
  have ab:(ks++[k]).Nodup:=by
   rw[GP]
   refine⟨nd,Ze,λ x hx y hy=>?_⟩
   rw[FL] at hy
   subst hy
   intro z
   exact a4 (z ▸ hx)
  refine Z6v
  rw[p1]
  simp only[↓reduceIte]
  rw[hashByValue_scannable 8 (show (ZIr).scannable=true from rfl)]
  refine Z6v
  simp only[plainKind,↓reduceIte]
  refine FI (JW ho hd ?_ (gH Z1))
  obtain⟨Z,a5⟩:=stored (es':=F) (t':=t1) ho Y hd
  have a2:∀ (G:Array (Int×Value)) (W:Nat) (V:SetTable) (h2:Heap),h2.get? a=some { o with data:=.set G W V }->Heap.SameBut a s.heap h2->G.toList.Perm F.toList->Good V G.size->V.led=t.led->Q true { s with heap:=h2 }:=by
   intro G W V h2 e2 sb p2 g2 l2
   have kp:(ZJB).Perm (ks++[k]):=(p2.map ke).trans a9
   refine h true h2 ZJB sb ⟨_,G,W,V,e2,Y,rfl,a3.perm p2,rfl,kp.nodup_iff.mpr ab,g2,?_,?_⟩ Z6m ?_
   ·rw[<- F3,p2.length_eq,F3,ae];lia
   ·rw[l2];exact aa
   ·rw[kp.mem_iff,FY,FL]
   ·rw[kp.length_eq,FQ];exact Z9
  by_cases R:t1.tooFull=true
  ·rw[R]
   simp only[Jm,Bool.and_self,↓reduceIte]
   have hg:grown F.size=F.size*4:=by unfold grown;rw[ZCu]
   obtain⟨G,V,eR,p2,g2,l2⟩:=pD (t:=t1) (es:=F) (wanted:=grown F.size) (by rw[hg];lia) (by rw[hg];lia) p1 Z1
   rw[eR]
   dsimp only
   refine FI (FN (FI (JW Z rfl ?_ (gH ?_))))
   ·obtain⟨a7,ad⟩:=stored (es':=G) (t':=V) Z Y rfl
    exact FN (FN (a2 G _ V _ a7 (a5.trans ad) p2 g2 (l2.trans l1)))
   ·rw[<- F3,p2.length_eq,F3];lia
  ·have I:t1.tooFull=false:=by simpa using R
   rw[I]
   simp only[Jm,Kt,Ge,↓reduceIte]
   refine FN (FN (a2 F _ t1 _ Z a5 Z4R ⟨J,by rw[m1];exact g.pow,p1,?_⟩ l1))
   unfold tooFull fill at I
   rw[J.size,J.clean] at I
   simpa using I
end
section
variable {P:Program}{w:World}{A:Around}{E:Value->Shared->Prop}{s:Shared}{a:Addr}{ks:List Int}
theorem eT.at' (S:Z1g) (e:∀ o,h.get? a=some o->h'.get? a=some o):eT P w h' a ks:=by
 obtain⟨o,es,j,t,q,r⟩:=S
 exact⟨o,es,j,t,e o q,r⟩
theorem eT.lt (S:Z1g):a<h.objs.size:=by
 obtain⟨o,es,q,t,j,r⟩:=S
 exact Heap.lt_size j
theorem Ao {R:Result->Shared->Prop}{I:Addr}{fp Z:Zq}{G:Array GenState->Array GenState->Prop}{n:Nat}{Y:Nat->Value->Prop}{St:Nat->Shared->Prop}
  (W:WalksS P w A.in1 I fp Z G n Y St) (F:a∉fp) (val:Nat->Int) (O:∀ i v,Y i v->∃ t,v=.int (val i) t) :
  ∀ (k i:Nat) (s:Shared) (ks:List Int),i+k=n->St i s->eT P w s.heap a ks->ks.length+k<=63 ->
   (∀ s' M,Moved (a::Z) G s s'->eT P w s'.heap a M->(∀ y,y∈M↔y∈ks\/∃ j,i<=j/\j<n/\val j=y)->M.length<=ks.length+k->R Z8K s') ->
   codeAny ZY A (.builtin "set.update.loop" ⟨[Z_,ZEM],[]⟩) R s:=by
 have V:a∉Z:=λ z=>F (W.sub _ z)
 have J:∀ b∈Z,b∈a::Z:=λ b z=>FW _ z
 intro k
 induction k with
 | zero=>
  intro i s ks hk st S a1 L
  rw[Kb] at hk
  subst hk
  refine Z5w
  rw[ZB_]
  unfold Builtin.«set.update.loop»
  refine FI (W.done s _ _ st λ s' U=>Z5h)
  refine L s' ks (U.mono J) Z9J (λ y=>⟨.inl,?_⟩) Z9
  rintro(z|⟨j,h1,h2,_⟩)
  ·exact z
  ·lia
 | succ k ih=>
  intro i s ks hk st S a1 L
  refine Z5w
  rw[ZB_]
  unfold Builtin.«set.update.loop»
  refine FI (W.item i s _ _ Z1 st λ v s1 hv a5 U=>?_)
  obtain⟨a6,rfl⟩:=O i v hv
  refine FI (Gp (Gp (FI ((Z0b).pyHash (k:=val i) (intKind_is _ _ _ _) ?_))))
  refine ua (s:={ s1 with toks:=s1.toks+1 }) Z9J Z1 λ b h2 a2 sb S2 m2 l2=>?_
  refine FN ⟨G6 Iy _,ih (i+1) _ a2 Z1 (W.frame _ s1 h2 _ a5 ZCV λ b hb o e=>?_) S2 Z1 λ s3 a3 a4 S3 m3 l3=>?_⟩
  ·rw[sb.2 b λ z=>F (z ▸ hb)];exact e
  ·refine L s3 a3 (Moved.trans W.gtrans ((U.mono J).then_heap ZCV λ b o hb e=>?_) a4) S3 Z6m Z1
   ·rw[sb.2 b λ z=>hb (z ▸ FZ)];exact e
   ·rw[m3,m2]
    constructor
    ·rintro((z|z)|⟨j,h1,h2,e⟩)
     ·exact Z9F
     ·exact .inr ⟨i,Z9,Z1,z.symm⟩
     ·exact ZF2
    ·rintro(z|⟨j,h1,h2,e⟩)
     ·exact .inl Z9F
     ·by_cases q:j=i
      ·subst q;exact .inl (.inr e.symm)
      ·exact ZF2
theorem mu {Q:Value->Shared->Prop}
  (h:∀ led:Bool,(w.params.followText "set-order" = true\/led=true)->Q ZD { s with heap:=s.heap.push { cls:=.type "set",dict:=none,data:=.set #[] 0 Z1I } }) :
  wpAny ZY A (newSet (.type "set")) Q E s:=by
 unfold newSet setsByText
 refine FI Z3V
 refine HH Zi
 dsimp only
 unfold newObj
 refine FI (wpAny_alloc (FN (h _ ?_)))
 show w.params.followText "set-order" = true\/(!w.params.followText "set-order")=true
 cases w.params.followText "set-order" <;> simp
theorem uC (x:Value) {Q:Value->Shared->Prop}
  (h:∀ led:Bool,(w.params.followText "set-order" = true\/led=true)->Q ZD { s with heap:=s.heap.push { cls:=.type "set",dict:=none,data:=.set #[] 0 Z1I } }) :
  codeAny ZY A (.call (.builtin "set.__new__") ⟨[.type "set",x],[]⟩) (wants Q E) s:=by
 refine Kj ?_
 show wpAny _ A.in1 (checkBuiltinCall _ _ >>= λ _=>again _) _ _ s
 refine FI (G9 (F.newCall_set_1 x) (FN ⟨G6 F.plain_set_new _,GN F.entry_set_new ?_⟩))
 rw[Around.under_plainId F.plain_set_new _]
 unfold Builtin.«set.__new__» Builtin.Frozenset.newClass
 have j:=JY
 generalize q:newSet=N
 obtain⟨G,g,d,tk,I⟩:=s
 dsimp only
 wp_walk
 subst q
 exact mu λ led z=>FN (h led z)
theorem oU {h:Heap}{a:Addr}{led:Bool}(e:h.get? a=some { cls:=.type "set",dict:=none,data:=.set #[] 0 Z1I }) (q:w.params.followText "set-order" = true\/led=true):eT P w h a []:=by
 refine⟨_,#[],0,_,e,?_,rfl,?_,rfl,IT,qb 0 0 led,Z8g,q⟩
 ·exact Z8T
 ·intro e j;cases j
theorem qg {l:Addr}{items:Z5i}{ns:Zc}{led:Bool}{R:Result->Shared->Prop}
  (hh:A.handled=none) (hl:Z6F) (hi:Z7D) (a4:items.size<=63) (U:a≠l)
  (ha:s.heap.get? a=some { cls:=.type "set",dict:=none,data:=.set #[] 0 Z1I }) (J:w.params.followText "set-order" = true\/led=true)
  (h:∀ (h':Heap) (tk:Nat) ks,eT P w h' a ks->(∀ y,y∈ks↔y∈ns) ->
   (∀ b o,b≠a->s.heap.get? b=some o->h'.get? b=some o)->R Z8K { s with heap:=h',toks:=tk }) :
  codeAny ZY A (.builtin "set.__init__" ⟨[Z_,Z3G],[]⟩) R s:=by
 refine GN F.entry_set_init ?_
 rw[Around.under_plainId F.called_set.init.plain _]
 have S:eT P w s.heap a []:=oU ha J
 have I:=hl
 obtain⟨ol,V,q,nl,G⟩:=hl
 obtain⟨a3,Z,Y,M⟩:=ol
 simp only at q G
 subst q;subst G
 have u1:=F.sub_list_set
 have u2:=F.sub_list_frozenset
 have u3:(Value.type "list" == Value.type "dict")=false:=Z4
 unfold Builtin.«set.__init__» noKeywords Builtin.Frozenset.updateFrom
 generalize O:pyIter=PI
 wp_walk
 subst O
 refine Ik I ?_
 refine FI (Ko ?_)
 have q3:A.in1.in1.handled=none:=by simp[hh]
 have la:a<s.heap.objs.size:=Heap.lt_size ha
 have ll:l<s.heap.objs.size:=Heap.lt_size V
 refine Ao (a:=a) ((Walks.list q3 s.heap.objs.size l (F1 ll) items).toS) (by simp only[FR,FU,Ga,Hz];exact⟨F1 la,U⟩)
  (λ i=>ZFJ) (λ i v hv=>PyProof.Rows.IntsAre.int_at hi i v (by rw[Gz];exact hv)) items.size 0 _ [] (Iq _)
  ⟨Z2z,I.push _⟩ (S.at' λ o e=>ZH) (by rw[List.length_nil];lia) ?_
 intro s' W L S' m' _
 obtain⟨h',g',d',a2,a1⟩:=s'
 obtain rfl:g'=s.gens:=L.gens
 obtain rfl:d'=s.drawn:=L.drawn
 obtain rfl:a1=s.os:=L.os
 refine FN Zi
 refine h h' a2 W S' Z6m λ b o hb e=>L.heap b o ?_ ZH
 ·have a5:items.size=ns.length:=by rw[<- F3];exact PyProof.Rows.IntsAre.length hi
  rw[m']
  constructor
  ·rintro(z|⟨j,_,h2,e⟩)
   ·cases z
   ·rw[<- e]
    show ns.getD j 0∈ns
    rw[HM,FJ Z1];exact Kg _
  ·intro z
   obtain⟨j,hj,e⟩:=Gm z
   exact .inr ⟨j,Z8g,Z1,by show ns.getD j 0=y;rw[HM,ZJF];exact e⟩
 ·simp only[FR,FU,Ga,Hz]
  exact⟨hb,F1 ZK⟩
set_option maxHeartbeats 3200000 in
theorem qf {l:Addr}{items:Z5i}{ns:Zc}{Q:Value->Shared->Prop}
  (hh:A.handled=none) (hl:Z6F) (hi:Z7D) (few:items.size<=63)
  (h:∀ (h':Heap) (tk:Nat) ks,eT P w h' s.heap.objs.size ks->(∀ y,y∈ks↔y∈ns) ->
   (∀ b o,s.heap.get? b=some o->h'.get? b=some o)->Q ZD { s with heap:=h',toks:=tk }) :
  wpAny ZY A (call (.type "set") [Z3G]) Q E s:=by
 obtain⟨c,tl,hmro⟩:=F.called_set.mro
 have u1:=F.called_set.made
 have u2:=F.called_set.sub
 have u3:=F.called_set.notType
 have u4:=F.called_set.canCreate
 have u5:=F.typeCall_set_1 Zg
 refine IJ (Kj ?_)
 show wpAny _ _ (callAny (.type "set") _) _ _ _
 refine FN ⟨Code.quiet_builtin _ (by decide +kernel),ZCt⟩
 rw[Around.under_plain (weight_type_call_type "set" [Z3G] []) rfl]
 repeat (any_goals (first|assumption|wp_step))
 refine Ip (uC Zg (E:=E) (Q:=λ v s1=>∃ led:Bool,(w.params.followText "set-order" = true\/led=true)/\v=.ref s.heap.objs.size/\s1={ s with heap:=s.heap.push { cls:=.type "set",dict:=none,data:=.set #[] 0 Z1I } }) λ led q=>⟨led,q,rfl,rfl⟩) λ r s1 hr=>?_
 match r,hr with
 | .error e,hr=>exact hr
 | .ok (.ret v),hr=>
  obtain⟨led,q,rfl,rfl⟩:=hr
  have new:(s.heap.push { cls:=.type "set",dict:=none,data:=.set #[] 0 Z1I }).get? s.heap.objs.size=some { cls:=.type "set",dict:=none,data:=.set #[] 0 Z1I }:=ZG
  have ty:Shared.TypeIs { s with heap:=s.heap.push { cls:=.type "set",dict:=none,data:=.set #[] 0 Z1I } } ZD "set":=⟨_,new,rfl⟩
  have u6:=F.called_set.init.lookup
  have u7:=F.called_set.init.bind ZD
  repeat (any_goals (first|assumption|wp_step))
  refine codeAny_call_builtin_code (G6 F.called_set.init.plain _) (check_set_init_1 ty ?_)
  refine qg (a:=s.heap.objs.size) (items:=items) (ns:=ns) (led:=led) (by simp[hh]) (hl.push _) hi few (GV ?_) new q λ h' tk ks S m keep=>?_
  ·obtain⟨ol,hol,_⟩:=hl;exact Heap.lt_size hol
  ·refine FN (FN (h h' tk ks S m λ b o e=>keep b o Z8x ZH))
end
theorem lY (next:Nat->Nat):∀ (n k:Nat) (l:List α) (out:Array α),n=l.length->(pickOrder.go next n k l out).toList.Perm (out.toList++l)
 | 0,k,l,out,h=>by
  have:l=[]:=HB h.symm
  subst this
  unfold pickOrder.go;simp
 | n+1,k,l,out,h=>by
  have j:next k%l.length<l.length:=ZJ5
  unfold pickOrder.go
  rw[FJ j]
  dsimp only
  refine(lY next n (k+1) _ _ (by rw[List.length_eraseIdx];simp[j];lia)).trans ?_
  rw[Ke,Hu]
  refine List.Perm.append_left _ ?_
  rw[List.eraseIdx_eq_take_drop_succ]
  have e:l=l.take (next k%l.length)++l[next k%l.length]::l.drop (next k%l.length+1):=by
   rw[<- List.drop_eq_getElem_cons j,List.take_append_drop]
  refine List.Perm.trans ?_ (List.Perm.of_eq e.symm)
  rw[List.singleton_append]
  exact List.perm_middle.symm
theorem gZ (next:Nat->Nat) (xs:Array α):(pickOrder next xs).toList.Perm xs.toList:=by
 unfold pickOrder
 simpa using lY next xs.size 0 xs.toList #[] (by simp)
section
variable {P:Program}{w:World}{A:Around}{E:Value->Shared->Prop}{s:Shared}{a b:Addr}{ks:List Int}
def eU (P:Program) (w:World) (h:Heap) (a:Addr) (ks:Zc) (es:Array (Int×Value)) (ep:Nat) (t:SetTable):Prop:=
 ∃ o,h.get? a=some o/\o.ExactSet/\o.data=.set es ep t/\ElemsOf Z0b es.toList/\es.toList.map ke=ks/\ks.Nodup/\Good t es.size/\es.size<=63/\(w.params.followText "set-order" = true\/t.led=true)
theorem eT.tab (S:Z1g):∃ es ep t,Z25:=by
 obtain⟨o,es,ep,t,r⟩:=S;exact⟨es,ep,t,o,r⟩
theorem eU.pj (S:Z25):Z1g:=by
 obtain⟨o,r⟩:=S;exact⟨o,es,ep,t,r⟩
theorem eU.size (S:Z25):es.size=ks.length:=by
 obtain⟨o,_,_,_,_,e,_⟩:=S;rw[<- e,FO,F3]
theorem eU.good (S:Z25):ZKa:=by
 obtain⟨o,_,_,_,_,_,_,g,_⟩:=S;exact g
theorem eU.at' (S:Z25) (e:∀ o,h.get? a=some o->h'.get? a=some o):eU P w h' a ks es ep t:=by
 obtain⟨o,j,r⟩:=S
 exact⟨o,e o j,r⟩
theorem eU.state (S:Zo) (h:Q (es,ep,t) s):wpAny ZY A (setState a) Q E s:=by
 obtain⟨o,q,_,j,_,_,_,g,_⟩:=S
 exact wpAny_setState_of q j g.fits h
theorem eU.store (S:Zo)
  (z:ElemsOf Z0b es2.toList) (J:(ZGx).Nodup) (g:Good t2 es2.size) (q:es2.size<=63) (led:w.params.followText "set-order" = true\/t2.led=true)
  (h:∀ h' ,Heap.SameBut a s.heap h'->eU P w h' a ZGx es2 (ep+1) t2->Q () { s with heap:=h' }) :
  wpAny ZY A (storeSet a es2 t2) Q E s:=by
 obtain⟨o,I,j,G,_⟩:=S
 refine JW I G ?_ (gH Z1)
 obtain⟨F,L⟩:=stored (es':=es2) (t':=t2) I j G
 exact h _ L ⟨_,F,j,rfl,z,rfl,J,g,q,led⟩
theorem vi (S:Zo) (R:wanted<256) (hn:ks.length*2<=wanted) (h0:0<wanted)
  (h:∀ h' F es' I t',Heap.SameBut a s.heap h'->eU P w h' a F es' I t'->F.Perm ks->wanted<=t'.mask->Q () { s with heap:=h' }) :
  wpAny ZY A (setRelay a wanted) Q E s:=by
 have sz:=S.size
 unfold setRelay
 refine Z27
 dsimp only
 obtain⟨o,ho,W,hd,L,M,Z,g,J,O⟩:=id S
 obtain⟨t',j,e,r,pw,pl,l,Y,hm,p⟩:=lP (t:=t) (es:=es) R Z1 g.plain
 have G:¬ (sizeAbove wanted>sizeLine):=by
  have h1:=(i6 R).1.pos.2
  have h2:256<=sizeLine:=Z4
  lia
 rw[FV G]
 have q:=vz p
 have z:(j.filterMap (es[·]?)).size=es.size:=by rw[<- F3,q.length_eq,F3]
 rw[e]
 have U:((j.filterMap (es[·]?)).toList.map ke).Perm ks:=by have:=q.map ke;rwa [M] at this
 refine FI (G9 (a:=(j.filterMap (es[·]?),t')) ?_ ?_)
 ·show (if ((j.filterMap (es[·]?)).size != es.size)=true then (unsupported "internal:set-table-lost-an-element" >>= λ _=>pure (j.filterMap (es[·]?),t')) else pure (j.filterMap (es[·]?),t'):Sem _)=_
  rw[z]
  simp
 ·dsimp only
  refine S.store (L.perm q) (U.nodup_iff.mpr Z) ⟨by rw[z];exact r,pw,pl,by rw[z];lia⟩ (by rw[z];exact J) (by rw[l];exact O) λ h' sb V=>?_
  exact h h' _ _ _ _ sb V U Y
theorem wO (S:Z35) (L:ks.length+more<=126) (h0:0<more)
  (h:∀ h' j es' q t',Heap.SameBut a s.heap h'->eU P w h' a j es' q t'->j.Perm ks->(ks.length+more)*5<t'.mask*3->Q () { s with heap:=h' }) :
  wpAny ZY A (setRoomFor a more) Q E s:=by
 obtain⟨es,G,t,S⟩:=S.tab
 have z:=S.size
 have g:=S.good
 have I:t.fill=ks.length:=by unfold fill;rw[g.rise.size,g.rise.clean,z];rfl
 unfold setRoomFor
 refine Z27
 dsimp only
 unfold roomFor
 rw[I,g.rise.size,z]
 by_cases c:(ks.length+more)*5 >= t.mask*3
 ·rw[FX c]
  dsimp only
  exact vi S Z1 Z1 Z1 λ h' j es' q t' J F p M=>h h' j es' q t' J F p Z1
 ·rw[FV c]
  dsimp only
  exact FN (h s.heap ks es G t Z5r S Z4R Z1)
theorem xi (S:Zo)
  (h:∀ xs:Array (Int×Value),xs.toList.Perm es.toList->Q xs s):Z9e:=by
 obtain⟨o,M,G,L,F,I,O,g,z,j⟩:=id S
 unfold setWalk setsByText
 refine Z27
 dsimp only
 refine Z6V
 dsimp only
 split
 ·exact FI (HH (FN (h _ (gZ _ _))))
 ·next c=>
  have J:t.led=true:=j.resolve_left c
  split
  ·next d=>
   have q:(!t.plain && decide (es.size>1))=true:=d
   rw[g.plain] at q
   cases q
  ·refine FI (G9 (a:=()) ?_ (FN (h es Z4R)))
   show (if (!t.led && decide (es.size>1))=true then unsupported "set:maker-not-led" else pure ():ZLh)=_
   rw[J]
   rfl
theorem um (S:Zo)
  (h:∀ xs:Array (Int×Value),xs.toList.Perm es.toList->Q xs s):wpAny ZY A (setWalkUnseen a others f) Q E s:=by
 obtain⟨o,L,G,J,F,I,M,g,z,j⟩:=id S
 unfold setWalkUnseen setsByText
 refine Z27
 dsimp only
 refine Z6V
 dsimp only
 split
 ·exact xi S h
 ·next c=>
  exfalso
  apply c
  have q:((ZIQ).w.params.followText "set-order" || (t.led && t.plain))=true:=by
   rw[g.plain,Bool.and_true,JJ];exact j
  rw[q];rfl
theorem oW {kb U:Zc}{eb:Array (Int×Value)}{epb:Nat}{tb:SetTable}{each:ZLh}{Q:Unit->Shared->Prop}(ne:a≠b) (Sa:Z35) (Sb:eU P w s.heap b kb eb epb tb)
  (few:U.length<=62) (sub1:∀ y∈ks,y∈U) (sub2:∀ y∈kb,y∈U)
  (heach:∀ h' (Q:Unit->Shared->Prop),eU P w h' b kb eb epb tb->Q () { s with heap:=h' }->wpAny ZY A each Q E { s with heap:=h' })
  (h:∀ h' ks',Heap.SameBut a s.heap h'->eT P w h' a ks'->(∀ y,y∈ks'↔y∈ks\/y∈kb)->Q () { s with heap:=h' }) :
  wpAny ZY A (setMerge a b each) Q E s:=by
 have szb:=Sb.size
 obtain⟨ob,hob,hexb,hdb,helb,hkb,ndb,gb,fewb,ledb⟩:=id Sb
 have l1:ks.length<=62:=Gd (Ja Sa.nodup sub1) few
 have l2:kb.length<=62:=Gd (Ja ndb sub2) few
 unfold setMerge
 rw[FV (show ¬ ((a == b)=true) by simpa using ne)]
 refine FI (Sb.state ?_)
 dsimp only
 by_cases em:eb.isEmpty=true
 ·rw[FX em]
  have:kb=[]:=HB (by rw[<- szb];simpa [Array.isEmpty] using em)
  exact FN (h s.heap ks Z5r Sa λ y=>by rw[this];simp)
 ·rw[FV em]
  have pos:0<eb.size:=by
   rcases Nat.eq_zero_or_pos eb.size with z|z
   ·exact absurd (by simp[Array.isEmpty,z]) em
   ·exact z
  refine FI (wO Sa Z1 pos λ h1 ks1 es1 ep1 t1 sb1 S1 p1 sl=>?_)
  have Sb1:eU P w h1 b kb eb epb tb:=Sb.at' λ o e=>by rw[sb1.2 b Z4v];exact e
  refine FI (S1.state ?_)
  dsimp only
  have sz1:=S1.size
  have g1:=S1.good
  have hf:t1.fill=ks1.length:=by unfold fill;rw[g1.rise.size,g1.rise.clean,sz1];rfl
  obtain⟨o1,ho1,hex1,hd1,hel1,hks1,nd1,_,few1,led1⟩:=id S1
  have ledm:w.params.followText "set-order" = true\/(t1.led && tb.led)=true:=by
   rcases led1 with z|z
   ·exact Z9F
   rcases ledb with y|y
   ·exact .inl y
   ·exact .inr (by rw[z,y];rfl)
  have plm:(t1.plain && tb.plain)=true:=by rw[g1.plain,gb.plain];rfl
  have none1:t1.fill=0->∀ y,y∈kb↔y∈ks\/y∈kb:=λ z y=>by
   have:ks1=[]:=HB (by rw[<- hf];exact z)
   have:ks=[]:=by rw[this] at p1;exact p1.symm.eq_nil
   rw[this];simp
  unfold road
  by_cases f0:t1.fill=0
  ·rw[f0]
   simp only[J8,Ge,↓reduceIte]
   by_cases same:(t1.mask == tb.mask && tb.dummies.isEmpty)=true
   ·rw[FX same]
    dsimp only
    refine S1.store helb (by rw[hkb];exact ndb) ⟨⟨gb.rise.size,gb.rise.up,gb.rise.clean,gb.rise.few⟩,gb.pow,plm,gb.slack⟩ fewb ledm λ h2 sb2 S2=>?_
    rw[hkb] at S2
    exact h h2 kb ZJ_ S2.pj (none1 f0)
   ·rw[FV same]
    dsimp only
    have sl':eb.size*5<t1.mask*3:=Z1
    obtain⟨t',order,e,r,m,l,pl,p⟩:=qQ (mask:=t1.mask) (finger:=t1.finger) (moves:=t1.moves) (led:=t1.led && tb.led) (plain:=t1.plain && tb.plain) g1.pow (hs:=eb.map (·.1)) (by rw[IV];lia)
    rw[IV] at r p
    rw[e]
    have q:=vz p
    have sz2:(order.filterMap (eb[·]?)).size=eb.size:=by rw[<- F3,q.length_eq,F3]
    have kp:((order.filterMap (eb[·]?)).toList.map ke).Perm kb:=by have:=q.map ke;rwa [hkb] at this
    refine FI (G9 (a:=(order.filterMap (eb[·]?),t')) ?_ ?_)
    ·show (if ((order.filterMap (eb[·]?)).size != eb.size)=true then (unsupported "internal:set-table-lost-an-element" >>= λ _=>pure (order.filterMap (eb[·]?),t')) else pure (order.filterMap (eb[·]?),t'):Sem _)=_
     rw[sz2]
     simp
    ·dsimp only
     refine S1.store (helb.perm q) (kp.nodup_iff.mpr ndb) ⟨by rw[sz2];exact r,by rw[m];exact g1.pow,by rw[pl];exact plm,by rw[sz2,m];exact sl'⟩ (by rw[sz2];exact fewb) (by rw[l];exact ledm) λ h2 sb2 S2=>?_
     exact h h2 _ ZJ_ S2.pj λ y=>by rw[kp.mem_iff];exact none1 f0 y
  ·rw[FX (by simpa using f0)]
   dsimp only
   refine FI (um Sb1 λ xs px=>?_)
   have helx:ElemsOf Z0b xs.toList:=helb.perm px
   have memx:∀ y,y∈xs.toList.map ke↔y∈kb:=λ y=>by rw[<- hkb];exact(px.map ke).mem_iff
   refine FI (MeetsSeq2.wpAny_forIn_array _ (λ rest _ s'=>∃ h2 ks2,s'={ s with heap:=h2 }/\Heap.SameBut a s.heap h2/\eT P w h2 a ks2/\(∀ y∈ks2,y∈ks\/y∈kb)/\(∀ y∈ks,y∈ks2)/\(∀ y∈kb,y∈ks2\/y∈rest.map ke)/\ElemsOf Z0b rest/\∀ y∈rest.map ke,y∈kb) _ ?_ ?_ xs _ ⟨h1,ks1,rfl,sb1,S1.pj,λ y z=>.inl (p1.mem_iff.mp z),λ y z=>p1.mem_iff.mpr z,λ y z=>.inr ((memx y).mpr z),helx,λ y z=>(memx y).mp z⟩)
   ·rintro⟨hx,x⟩ rest _ s' ⟨h2,ks2,rfl,sb2,S2,m1,m2,m3,er,mr⟩
    obtain⟨⟨k,hk,hh⟩,_⟩:=er (hx,x) FZ
    obtain⟨tok,q⟩:=Value.isInt_shape (show Value.isInt k x=true from hk)
    have hh':hx=hashInt k:=hh
    subst q;subst hh'
    have kk:ke (ZDs,ZIr)=k:=rfl
    have kin:k∈kb:=mr k (by rw[Gq,kk];exact FZ)
    have lk:ks2.length<=62:=Gd (Ja S2.nodup λ y z=>(m1 y z).elim (sub1 y) (sub2 y)) few
    refine FI (Gp (ua S2 lk λ _ h3 ks3 sb3 S3 m _=>?_))
    have Sb3:eU P w h3 b kb eb epb tb:=Sb.at' λ o e=>by rw[sb3.2 b Z4v,sb2.2 b Z4v];exact e
    refine FI (heach h3 _ Sb3 (FI (Sb3.state ?_)))
    dsimp only
    rw[ZEE]
    refine FN ⟨h3,ks3,rfl,sb2.trans sb3,S3,λ y z=>?_,λ y z=>(m y).mpr (.inl (m2 y z)),λ y z=>?_,λ e he=>er e (FW _ he),λ y z=>mr y (by rw[Gq];exact FW _ z)⟩
    ·rcases (m y).mp z with z|rfl
     ·exact m1 y z
     ·exact .inr kin
    ·rcases m3 y z with z|z
     ·exact .inl ((m y).mpr Z9F)
     ·rw[Gq,kk] at z
      rcases FR.mp z with rfl|z
      ·exact .inl ((m y).mpr Z5k)
      ·exact ZEQ
   ·rintro _ s' ⟨h2,ks2,rfl,sb2,S2,m1,m2,m3,_,_⟩
    refine FN (h h2 ks2 sb2 S2 λ y=>⟨m1 y,λ z=>z.elim (m2 y) λ z=>(m3 y z).elim id λ z=>by cases z⟩)
end
section
variable {P:Program}{w:World}{A:Around}{E:Value->Shared->Prop}{s:Shared}{a b:Addr}{ks:List Int}
theorem eT.typeIs (S:Z35):s.TypeIs Z_ "set":=by
 obtain⟨o,es,z,t,q,j,r⟩:=S
 exact⟨o,q,j.1⟩
theorem vC:entryFor table "set.__or__" = some Builtin.«frozenset.__or__» :=
 Kr (id':="frozenset.__or__") (by kernel_rfl) rfl (by decide +kernel) (by kernel_rfl)
theorem jB (T:s.TypeIs Z_ "set") (h:Q true s):wpAny ZY A (Builtin.Frozenset.isAnySet Z_) Q E s:=by
 unfold Builtin.Frozenset.isAnySet orM
 refine ZJG
 exact FN h
theorem xH (T:s.TypeIs Z_ "set") (h:Q (.type "set") s):wpAny ZY A (Builtin.Frozenset.baseOf a) Q E s:=by
 unfold Builtin.Frozenset.baseOf
 refine ZJG
 exact FN h
theorem kQ (S:Zo) (h:Q ep s):wpAny ZY A (setEpoch a) Q E s:=by
 unfold setEpoch
 exact FI (S.state (FN h))
theorem CG {V R U:Zc}{Q:Value->Shared->Prop}(G:eT P w s.heap a V) (I:eT P w s.heap b R) (ne:a≠b)
  (L:U.length<=62) (q:∀ y∈V,y∈U) (O:∀ y∈R,y∈U)
  (h:∀ h' M,eT P w h' s.heap.objs.size M->(∀ y,y∈M↔y∈V\/y∈R)->(∀ c o,s.heap.get? c=some o->h'.get? c=some o)->Q ZD { s with heap:=h' }) :
  wpAny ZY A (binaryOp .BitOr Z_ Zj) Q E s:=by
 refine wpAny_binaryOp_same G.typeIs I.typeIs F.fills_set_or F.slot_set_or (Hf F.slot_set_or G.typeIs vC ?_ (F.args_set_or_2 _ _))
 show wpAny _ A.in1 (Builtin.Frozenset.slot1 "__or__" _ >>= _) _ _ _
 refine Z3V
 unfold Builtin.Frozenset.slot1
 refine FI (G9 (a:=(Z_,[Zj])) rfl Zi)
 dsimp only
 simp only[Ge,↓reduceIte]
 unfold andM
 refine FI (FI (jB G.typeIs (jB I.typeIs ?_)))
 simp only[Ij,Ge,↓reduceIte]
 refine FI (FN Z3V)
 show wpAny _ A.in1 (Builtin.Frozenset.copyOf a >>= _) _ _ _
 refine Z3V
 unfold Builtin.Frozenset.copyOf
 refine FI (xH G.typeIs (FI (mu λ W hl=>?_)))
 refine Z6v
 have na:a≠s.heap.objs.size:=F1 G.lt
 have nb:b≠s.heap.objs.size:=F1 I.lt
 obtain⟨ea,a3,ta,Ta⟩:=G.tab
 obtain⟨eb,S,tb,Tb⟩:=I.tab
 have Z:eT P w (s.heap.push { cls:=.type "set",dict:=none,data:=.set #[] 0 (.fresh 0 0 W) }) s.heap.objs.size []:=oU ZG hl
 refine FI (oW (Ne.symm na) Z (Ta.at' λ o e=>ZH) L (λ y z=>by cases z) q (λ h' Q _ z=>FN z) λ h1 k1 a1 S1 m1=>?_)
 refine Z5h
 dsimp only
 have Y:(Value.ref b != Value.ref a)=true:=by simpa using Ne.symm ne
 rw[FX Y]
 have j:∀ c o,s.heap.get? c=some o->h1.get? c=some o:=λ c o e=>by
  rw[a1.2 c Z8x];exact ZH
 refine FI (FN Z8i)
 unfold Builtin.Frozenset.updateFrom
 refine FI (jB (I.at' (j b)).typeIs ?_)
 simp only[↓reduceIte]
 refine Z6v
 unfold Builtin.Frozenset.merge
 have J:eU P w h1 b R eb S tb:=Tb.at' (j b)
 refine FI (kQ J ?_)
 refine oW (s:={ s with heap:=h1 }) (Ne.symm nb) S1 J L (λ y z=>(m1 y).mp z |>.elim (λ z=>by cases z) (q y)) O (λ h' Q T z=>?_) λ h2 k2 a2 S2 m2=>?_
 ·unfold Builtin.Frozenset.unchanged
  refine FI (kQ T ?_)
  rw[ZEE]
  exact FN z
 ·refine FN (FN ⟨_,rfl,Ze,h h2 k2 S2 Z6m λ c o e=>?_⟩)
  ·rw[m2,m1];simp
  ·rw[a2.2 c Z8x];exact j c o e
end
theorem iG:Slot "set_iterator" "__next__" "set_iterator.__next__" :=
 .of (owner:="set_iterator") (n:="__next__") (by rw[typeLookup_type,builtinLookup_eq_fast];kernel_rfl) (by decide +kernel) (by decide +kernel) (by decide +kernel)
  (by first|exact .inl (by decide +kernel)|exact .inr (by decide +kernel)) (by rw[Kq];kernel_rfl)
theorem oD:entryFor table "set_iterator.__next__" = some Builtin.«set_iterator.__next__»:=entryFor_of_fast (by kernel_rfl)
theorem qJ (a):argsOk "set_iterator.__next__" ⟨[a],[]⟩:=by unfold argsOk;kernel_rfl
theorem uQ:entryFor table "set.__iter__" = some Builtin.«frozenset.__iter__» :=
 Kr (id':="frozenset.__iter__") (by kernel_rfl) rfl (by decide +kernel) (by kernel_rfl)
theorem pP (h:xs.toList.Pairwise (· < ·)) (e:xs[i]? = some j):below xs (j+1)=i+1:=by
 obtain⟨L,F,G⟩:=gK h (j+1)
 have hi:=ZFz
 have h1:¬ below xs (j+1)<=i:=λ z=>by have:=G i j z e;lia
 have h2:¬ i+1<below xs (j+1):=λ z=>by
  have q:i+1<xs.size:=Z1
  have J:xs[i+1]? = some xs[i+1]:=Gn q
  have M:=F (i+1) _ z J
  have I:xs[i]=j:=(Hv.mp e).2
  have:=Iu.mp h i (i+1) (by simpa using hi) (by simpa using q) (G8 _)
  rw[Array.getElem_toList,Array.getElem_toList,I] at this
  lia
 lia
theorem qA (h:xs.toList.Pairwise (· < ·)):below xs 0=0:=by
 obtain⟨q,j,F⟩:=gK h 0
 rcases Nat.eq_zero_or_pos (below xs 0) with z|z
 ·exact z
 ·have:0<xs.size:=Z1
  have:=j 0 _ z (Gn this)
  lia
noncomputable def du (w:World) (a:Addr) (ep:Nat) (es:Array (Int×Value)):Array (Int×Value):=if w.params.followText "set-order" = true then pickOrder (w.params.setOrder a ep) es else es
theorem hW (w) (a) (ep) (es:Array (Int×Value)):(Z0o).toList.Perm es.toList:=by
 unfold du
 split
 ·exact gZ _ _
 ·exact Z4R
theorem gc (w) (a) (ep) (es:Array (Int×Value)):(Z0o).size=es.size:=by
 rw[<- F3,(hW w a ep es).length_eq,F3]
section
variable {P:Program}{w:World}{A:Around}{E:Value->Shared->Prop}{s:Shared}{a I:Addr}{ks:List Int}{es:Array (Int×Value)}{ep:Nat}{t:SetTable}
def hV (w:World) (t:SetTable) (h:Heap) (I a:Addr) (i n ep:Nat):Prop:=∃ o slot,h.get? I=some o/\o.cls=.type "set_iterator" /\ o.data=.fields #[.int (slot:Nat) 0,.int i 0,Z_,.int n 0,ZJR]/\(w.params.followText "set-order" = true\/below t.place slot=i)
theorem hV.typeIs (x:ZBw):s.TypeIs ZEM "set_iterator":=by
 obtain⟨o,_,q,j,_⟩:=x;exact⟨o,q,j⟩
theorem uZ (S:Zo) (j:w.params.followText "set-order" = true)
  (h:Q Z0o s):Z9e:=by
 unfold setWalk setsByText
 refine Z27
 dsimp only
 refine Z6V
 dsimp only
 unfold du at h
 rw[FX j] at h
 split
 ·exact FI (HH (FN h))
 ·next c=>exact absurd j c
theorem kF {j i:Nat}{Q:Option (Value×Nat)->Shared->Prop}(S:Zo) (J:w.params.followText "set-order" = true\/below t.place j=i)
  (hs:∀ e z,(Z0o)[i]? = some e->(w.params.followText "set-order" = true\/below t.place z=i+1)->Q (some (e.2,z)) s)
  (G:(Z0o)[i]? = none->Q none s):wpAny ZY A (setNext a j i ep) Q E s:=by
 obtain⟨os,a2,Z,W,Y,a1,nd,g,V,L⟩:=id S
 unfold setNext setsByText
 refine Z27
 dsimp only
 refine Z6V
 dsimp only
 split
 ·next c=>
  rw[ZEE]
  refine FI (uZ S c Zi)
  cases q:(du w a ep es)[i]? with
  | none=>exact G q
  | some e=>exact hs e j q (.inl c)
 ·next c=>
  have hl:t.led=true:=L.resolve_left c
  have hi:below t.place j=i:=J.resolve_left c
  have wo:du w a ep es=es:=by unfold du;exact FV c
  split
  ·next d=>
   have O:(!t.plain && decide (es.size>1))=true:=d
   rw[g.plain] at O
   cases O
  ·refine FI (G9 (a:=()) ?_ Zi)
   ·show (if (!t.led && !es.isEmpty)=true then unsupported "set:maker-not-led" else pure ():ZLh)=_
    rw[hl]
    rfl
   ·rw[hi]
    rw[wo] at hs G
    by_cases U:i<es.size
    ·have M:i<t.place.size:=by rw[g.rise.size];exact U
     have F:es[i]? = some es[i]:=Gn U
     have R:t.place[i]? = some t.place[i]:=Gn M
     rw[F,R]
     exact hs es[i] (t.place[i]+1) F (.inr (pP g.rise.up R))
    ·have F:es[i]? = none:=G0 Z1
     rw[F]
     exact G F
theorem next_item {i:Nat}{e:Int×Value}{Q:Option Value->Shared->Prop}(V:Z92) (S:Zo) (U:(Z0o)[i]? = some e)
  (h:∀ h',Heap.SameBut I s.heap h'->hV w t h' I a (i+1) es.size ep->Q (some e.2) { s with heap:=h' }):Z7p:=by
 have T:=V.typeIs
 obtain⟨o,W,M,hc,J,R⟩:=V
 obtain⟨os,a5,a3,a1,a2,a4,nd,g,Z,a6⟩:=id S
 unfold pyNext
 refine FI (IB (IK (name:=Str.ofString "__next__") T iG ZDf))
 unfold Builtin.«set_iterator.__next__»
 refine FI (G9 (a:=(ZEM,[])) rfl ?_)
 refine FI (JP M J ?_)
 dsimp only
 unfold setEntries
 refine ZF0
 dsimp only
 rw[ZEE]
 simp only[GB]
 refine FI (kF S R (λ Y j q G=>?_) λ q=>?_)
 ·rw[U] at q
  obtain rfl:e=Y:=Option.some.inj q
  dsimp only
  refine FI (Ji M J Z8 ?_)
  have F:=Heap.get?_update_self (Obj.mapFields (·.setIfInBounds 0 (rawInt j))) M (Obj.isFreed_of_fields (Obj.data_mapFields J _))
  have z:=Obj.data_mapFields J (·.setIfInBounds 0 (rawInt j))
  refine FI (Ji F z Z8 ?_)
  have O:=Heap.get?_update_self (Obj.mapFields (·.setIfInBounds 1 (rawInt ((i:Int)+1)))) F (Obj.isFreed_of_fields (Obj.data_mapFields z _))
  have L:=Obj.data_mapFields z (·.setIfInBounds 1 (rawInt ((i:Int)+1)))
  refine FN ⟨_,rfl,FN (h _ ((Heap.SameBut.update ..).trans (Heap.SameBut.update ..)) ⟨_,j,O,?_,?_,G⟩)⟩
  ·rw[Obj.cls_mapFields,Obj.cls_mapFields];exact hc
  ·rw[L];simp[rawInt]
 ·rw[U] at q;cases q
theorem next_end {i:Nat}{Q:Option Value->Shared->Prop}(R:A.handled=none) (L:Z92) (S:Zo) (O:(Z0o)[i]? = none)
  (h:∀ h',Heap.ExtBut I s.heap h'->Q none { s with heap:=h' }):Z7p:=by
 have T:=L.typeIs
 obtain⟨o,M,G,V,F,j⟩:=L
 unfold pyNext
 refine FI (IB (IK (name:=Str.ofString "__next__") T iG ZDf))
 unfold Builtin.«set_iterator.__next__»
 refine FI (G9 (a:=(ZEM,[])) rfl ?_)
 refine FI (JP G F ?_)
 dsimp only
 unfold setEntries
 refine ZF0
 dsimp only
 rw[ZEE]
 simp only[GB]
 refine FI (kF S j (λ U z q J=>?_) λ q=>?_)
 ·rw[O] at q;cases q
 ·dsimp only
  refine FI (Ji G F Z8 ?_)
  refine Z3V
  simp only[newExc,newTuple]
  refine FI (Hr ?_ (by size_fits))
  refine FI (m:=ZGN) (G9 (a:=Value.none) (by first|rfl|(simp only[firstArgMember];rfl)) ?_)
  refine Hr ?_ (by size_fits)
  simp only[raiseNew]
  refine ZEG
  rw[show A.in1.handled=none from R]
  refine ZCE
  refine FI (HG (T:="StopIteration") (b:=true) Z73 isSubtype_stop ?_)
  exact FN (h _ (((Heap.SameBut.update ..).extBut.push _).push _))
theorem w6 (S:Zo)
  (h:∀ o,hV w t (s.heap.push o) s.heap.objs.size a 0 es.size ep->Q ZD { s with heap:=s.heap.push o }):wpAny ZY A (pyIter Z_) Q E s:=by
 obtain⟨V,O,L,G,J,M,U,g,z,R⟩:=id S
 have T:s.TypeIs Z_ "set":=S.pj.typeIs
 refine JX T F.slot_set_iter (Hf F.slot_set_iter T uQ ?_ (F.args_set_iter_1 _))
 unfold Builtin.«frozenset.__iter__» Builtin.Frozenset.slot0
 refine FI (FI (G9 (a:=(Z_,[])) rfl Zi))
 unfold Builtin.Frozenset.sizeOf setEntries
 refine FI (FI (FI (S.state (FN Zi))))
 unfold setDrawn setsByText
 refine FI Z27
 dsimp only
 refine FI (FI (HH (FN Zi)))
 have j:(!(ZIQ).w.params.followText "set-order" && (!t.plain && decide (es.size>1)))=false:=by rw[g.plain];simp
 split
 ·next c=>
  have q:(!(ZIQ).w.params.followText "set-order" && (!t.plain && decide (es.size>1)))=true:=c
  rw[j] at q;cases q
 ·refine FI (FN (FI (kQ S ?_)))
  unfold newFields
  refine FI (Hr (FN ⟨_,rfl,"set_iterator",_,Z73,iG.lookup,h _ ⟨_,0,ZG,rfl,rfl,.inr (qA g.rise.up)⟩⟩))
theorem rq:Slot "set_iterator" "__iter__" "set_iterator.__iter__" :=
 .of (owner:="set_iterator") (n:="__iter__") (by rw[typeLookup_type,builtinLookup_eq_fast];kernel_rfl) (by decide +kernel) (by decide +kernel) (by decide +kernel)
  (by first|exact .inl (by decide +kernel)|exact .inr (by decide +kernel)) (by rw[Kq];kernel_rfl)
theorem wx:entryFor table "set_iterator.__iter__" = some Builtin.«dict_keyiterator.__iter__» :=
 Kr (id':="dict_keyiterator.__iter__") (by kernel_rfl) rfl (by decide +kernel) (by kernel_rfl)
theorem xQ (a):argsOk "set_iterator.__iter__" ⟨[a],[]⟩:=by unfold argsOk;kernel_rfl
theorem pE (j:ZBw) (h:Q ZEM s):wpAny ZY A (pyIter ZEM) Q E s:=by
 have T:=j.typeIs
 refine JX T rq (Hf rq T wx ?_ (xQ _))
 unfold Builtin.«dict_keyiterator.__iter__»
 exact FI (G9 (a:=(ZEM,[])) rfl (FN ⟨_,rfl,"set_iterator",_,T,iG.lookup,h⟩))
theorem hV.at' (x:hV w t h I a i n ep) (e:∀ o,h.get? I=some o->h'.get? I=some o):hV w t h' I a i n ep:=by
 obtain⟨o,j,q,r⟩:=x;exact⟨o,j,e o q,r⟩
theorem sU (M:A.handled=none) (R:a≠I):Walks P w A I [I,a] [I] es.size (λ i v=>∃ e,(Z0o)[i]? = some e/\v=e.2) (λ i h=>hV w t h I a i es.size ep/\eU P w h a ks es ep t) where
 sub:=λ b j=>by simp at j;simp[j]
 frame:=λ i h h' st J=>⟨st.1.at' λ o e=>J I Z8 o e,st.2.at' λ o e=>J a Ze o e⟩
 item:=λ i s Q E hi st q=>by
  have O:i<(Z0o).size:=by rw[gc];exact hi
  have G:(Z0o)[i]? = some (Z0o)[i]:=Gn O
  refine next_item st.1 st.2 G λ h' L F=>?_
  exact q _ h' s.toks ⟨_,G,rfl⟩ ⟨F,st.2.at' λ o e=>by rw[L.2 a R];exact e⟩ λ b o j e=>by rw[L.2 b (λ z=>j (by simp[z]))];exact e
 done:=λ s Q E st q=>by
  refine next_end M st.1 st.2 (G0 (by rw[gc];exact Z9)) λ h' ex=>?_
  exact q h' s.toks λ b o j e=>ex b o (λ z=>j (by simp[z])) e
 self:=λ i s Q E st q=>pE st.1 q
theorem rY:∀ {l:List (Int×Value)},ElemsOf Z0b l->PyProof.Rows.IntsAre (l.map (·.2)) (l.map ke)
 | [],_=>.nil
 | e::l,h=>by
  obtain⟨⟨k,F,_⟩,_⟩:=h e FZ
  obtain⟨j,q⟩:=Value.isInt_shape (show Value.isInt k e.2=true from F)
  obtain⟨x,v⟩:=e
  subst q
  exact .cons k j (rY λ e z=>h e (FW _ z))
theorem vo {xs:Array (Int×Value)}{acc:Z5i}(h:ItemsOf (λ i v=>∃ e,xs[i]? = some e/\v=e.2) acc xs.size):acc.toList=xs.toList.map (·.2):=by
 refine Z3U
 rw[FP,Gz,Gz]
 by_cases q:i<acc.size
 ·have j:=Gn q
  obtain⟨e,z,F⟩:=h.2 i _ j
  rw[j,z,F];rfl
 ·rw[G0 Z1,G0 (by have:=h.1;lia)];rfl
theorem p6 {Q:List Value->Shared->Prop}(hh:A.handled=none) (S:Z35)
  (h:∀ (vs:List Value) (ns:List Int) h' tk,PyProof.Rows.IntsAre vs ns->ns.Perm ks->(∀ b o,s.heap.get? b=some o->h'.get? b=some o)->Q vs { s with heap:=h',toks:=tk }) :
  wpAny ZY A (collect Z_) Q E s:=by
 obtain⟨es,ep,t,S⟩:=S.tab
 have la:a<s.heap.objs.size:=S.pj.lt
 have ne:s.heap.objs.size≠a:=GV la
 unfold collect
 refine Z6w
 rw[Z5S]
 unfold Builtin.«proto.collect»
 refine FI (Js ?_)
 refine Z43
 rw[Z6C]
 unfold Builtin.«list.__iadd__»
 refine FI (G9 (a:=(ZD,ZKR)) rfl ?_)
 dsimp only
 unfold Builtin.List.listExtendWith
 have V:=S.at' (h':=s.heap.push { cls:=.type "list",data:=.seq ([]:Zh).toArray }) λ o e=>ZH
 have T1:Shared.TypeIs { s with heap:=s.heap.push { cls:=.type "list",data:=.seq ([]:Zh).toArray } } Z_ "set":=V.pj.typeIs (s:={ s with heap:=s.heap.push { cls:=.type "list",data:=.seq ([]:Zh).toArray } })
 refine ZM1
 have h1:Builtin.List.listSameRef ZD (Z_)=false:=by simp[Builtin.List.listSameRef,ne]
 have h2:(Value.type "set" == Value.type "list")=false:=Z4
 have h3:(Value.type "set" == Value.type "tuple")=false:=Z4
 simp only[h1,h2,h3,Bool.or_false,Ge,Hb]
 refine FI (w6 V λ J it=>?_)
 refine Z8i
 unfold Builtin.List.listLengthHint
 have W:=V.at' (h':=(s.heap.push { cls:=.type "list",data:=.seq ([]:Zh).toArray }).push J) λ o e=>ZH
 have R:Shared.TypeIs { s with heap:=(s.heap.push { cls:=.type "list",data:=.seq ([]:Zh).toArray }).push J } Z_ "set":=W.pj.typeIs (s:={ s with heap:=(s.heap.push { cls:=.type "list",data:=.seq ([]:Zh).toArray }).push J })
 refine FI (Jc R F.slot_set_len.lookup ?_)
 wp_delta
 refine FI (HG R JY ?_)
 show wpAny _ A.in1 (typeOf Z7a >>= _) _ _ _
 refine FI (JA R Zi)
 rw[FX Z4]
 refine FI (Ia ?_)
 generalize hH:s.heap.push { cls:=.type "list",data:=.seq ([]:List Value).toArray }=H at it W R ⊢
 have M:H.objs.size=s.heap.objs.size+1:=by rw[<- hH,Heap.size_push]
 have j:(ZLv).get? s.heap.objs.size=some { cls:=.type "list",data:=.seq ([]:Zh).toArray }:=Heap.get?_push_of_some _ (hH ▸ Heap.get?_push_size _ rfl)
 show wpAny _ A.in1 (Builtin.List.listTouch ZD >>= _) _ _ _
 refine Z3V
 show wpAny _ A.in1 (updateSeq s.heap.objs.size (·.push .none) >>= λ _=>updateSeq s.heap.objs.size (·.pop)) _ _ _
 refine Z9W
 have q:=Heap.get?_update_self (Obj.mapSeq (·.push Value.none)) j rfl
 refine Hw q rfl ?_
 have z:=Heap.get?_update_self (Obj.mapSeq (·.pop)) q rfl
 have G:∀ b o,b≠s.heap.objs.size->(ZLv).get? b=some o->(((ZLv).update s.heap.objs.size (Obj.mapSeq (·.push Value.none))).update s.heap.objs.size (Obj.mapSeq (·.pop))).get? b=some o:=
  λ b o hb e=>ZAn
 have nI:s.heap.objs.size≠H.objs.size:=Z1
 have a2:s.heap.objs.size∉[H.objs.size,a]:=by simp only[FR,FU,Ga,Hz];exact⟨nI,ne⟩
 have Z:es.size<=sizeLine:=gH (by have:=S.pj.few;have:=S.size;lia)
 refine FN ⟨ZCB,codeAny_extend_loopS (sU (A:=A.in1) (ks:=ks) (t:=t) (es:=es) (ep:=ep) hh (I:=H.objs.size) (F1 (by rw[M];exact GY la))).toS Z _ a2 _ es.size 0 _ _ _ rfl Z8g
  ⟨it.at' λ o e=>G _ o (Ne.symm nI) e,W.at' λ o e=>G _ o Z4v e⟩ z ZJn λ s' L c' U a1 O=>?_⟩
 obtain⟨h',g',d',a6,a5⟩:=s'
 obtain rfl:g'=s.gens:=U.gens
 obtain rfl:d'=s.drawn:=U.drawn
 obtain rfl:a5=s.os:=U.os
 show wpAny _ A (load s.heap.objs.size >>= _) _ _ _
 refine FI (wpAny_load a1 Zi)
 obtain⟨_,_,_,_,a3,a4,_⟩:=S
 have Y:L.toList=(Z0o).toList.map (·.2):=vo (by rw[gc];exact O)
 have p:=hW w a ep es
 refine h _ ((Z0o).toList.map ke) h' a6 (by rw[Y];exact rY (a3.perm p)) (by rw[<- a4];exact p.map ke) λ b o e=>U.heap b o ?_ (G b o Z8x (Heap.get?_push_of_some _ (hH ▸ Heap.get?_push_of_some _ e)))
 have:=ZK
 simp only[FR,FU,Ga,Hz]
 exact⟨F1 this,F1 (by show b<H.objs.size;rw[M];exact GY this)⟩
theorem qB {Q:Fin->Shared->Prop}{vs:Zh}{ns:Zc}(hI:PyProof.Rows.IntsAre vs ns) (h64:vs.length<64)
  (h:∀ (out:Array Value) (ns':List Int) h' c,(∀ b o,s.heap.get? b=some o->h'.get? b=some o)->h'.get? s.heap.objs.size=some { cls:=.type "list",dict:=none,data:=ZCF,slots:=#[] }->PyProof.Rows.IntsAre out.toList ns'->ns'.Perm ns->ns'.Pairwise (· <= ·) ->
   Q ZH_ { s with heap:=h' }) :
  wpAny ZY A (do let l <- newList vs;let _ <- holding [l] (call (.builtin "list.sort") [l] []);ret l) Q E s:=by
 refine FI (Js ?_ (gH (Ic h64)))
 have hoL:(s.heap.push (PyProof.Rows.seqObj "list" vs.toArray 0)).get? s.heap.objs.size=some (PyProof.Rows.seqObj "list" vs.toArray 0):=ZG
 refine FI (Gp (Hf PyProof.Rows.slot_list_sort ZIG PyProof.Rows.entry_list_sort (PyProof.Rows.list_sort_tree hoL hI h64 λ out ns' a1 a2 a3=>Z3b) (PyProof.Rows.args_list_sort _)))
 obtain⟨e,he⟩:=PyProof.Rows.sortedHeap_at (out:=out) hoL
 refine FN (h out ns' _ e ZKn he a1 a2 a3)
 have lt:=Z3e
 show (PyProof.Rows.sortedHeap (s.heap.push (PyProof.Rows.seqObj "list" vs.toArray 0)) s.heap.objs.size vs out).get? b=some o
 rw[PyProof.Rows.sortedHeap_old (F1 lt) (by rw[Heap.size_push];exact GY lt)]
 exact Zy
theorem tJ {Q:Value->Shared->Prop}{x:Value}
  (hc:wpAny ZY A.in1 (collect x) (λ vs s1=>∃ ns,PyProof.Rows.IntsAre vs ns/\vs.length<64 /\
   ∀ (out:Array Value) (ns':List Int) h' c,(∀ b o,s1.heap.get? b=some o->h'.get? b=some o)->h'.get? s1.heap.objs.size=some { cls:=.type "list",dict:=none,data:=ZCF,slots:=#[] }->PyProof.Rows.IntsAre out.toList ns'->ns'.Perm ns->ns'.Pairwise (· <= ·) ->
    Q ZCY { s1 with heap:=h' }) E s) :
  wpAny ZY A (call (.builtin "sorted") [x]) Q E s:=by
 refine Calls.call_function_entry PyProof.Rows.kind_sorted PyProof.Rows.plain_sorted PyProof.Rows.entry_sorted (PyProof.Rows.args_sorted1 _) ?_
 unfold Builtin.«sorted»
 refine FI (m:=checkCount "sorted" 1 1 _) Zi
 refine Z6B
 obtain⟨ns,hI,h64,fin⟩:=h1
 exact qB hI h64 λ out ns' h' c a b d e f=>⟨_,rfl,fin out ns' h' c a b d e f⟩
end
end SetT
namespace L2
open PySem PySem.Spec PyProof.Rows SetT
noncomputable def ic (P:Program) (w:World) (a:Addr) (ks:Zc):HO:=.ext λ h=>Z1g
theorem ic.ok (S:Z1g):ZB5:=
 ⟨S,let ⟨o,_,_,_,e,_⟩:=S;⟨o,e⟩,λ _ _ S e=>S.at' e⟩
theorem ic.get (x:ZB5):Z1g:=x.1
noncomputable def iV (ns:Zc):Z04:=Z4p
theorem mF:∀ {ns:List Int}{us:List Value},Vals Z1Z us->IntsAre us ns
 | [],_,.nil=>.nil
 | n::ns,_,.cons r t=>by
  obtain⟨j,rfl⟩:=r
  exact .cons n j (mF t)
theorem rh:∀ {ns:List Int}{us:List Value},IntsAre us ns->Vals Z1Z us
 | _,_,.nil=>.nil
 | _,_,.cons n t j=>.cons Z7N (rh j)
section
variable {X:Cx}{K:PySem.W.Frag}{P:Program}{w:World}
inductive vh (K:PySem.W.Frag) (P:Program) (w:World) (xs:List V) (H:Hp) (Q:VK):Prop
 | mk:∀ p ns,xs=[Zs]->SqL K H p Z1Z->ns.length<=63->(∀ l ks,H l=none->ks.Nodup->(∀ y,y∈ks↔y∈ns)->Q Zg ZD7)->vh K P w xs H Q
theorem me (J:X.calm=true) (F:X.K=K:=by rfl) (G:X.prog=P:=by rfl) (M:X.w=w:=by rfl):eG X (.type "set") (vh K P w):=by
 subst F;subst G;subst M
 intro pins s σ H xs us Q I r h
 obtain⟨p,ns,rfl,L,z,q⟩:=h
 obtain⟨u,rfl,Y⟩:=Z4x
 cases Y
 obtain⟨O,W,V,Z⟩:=I.list L
 have j:=mF W
 have U:=IntsAre.length j
 refine qf (I.ok.hd J) V.isList (by simpa using j) (by simp only[F7];lia) λ h' tk ks S m R=>?_
 exact⟨ZD,_,I.laid R Z9 (ic.ok S),rfl,q _ ks I.fresh S.nodup m⟩
inductive Cq (P:Program) (w:World) (x:V) (y:V) (H:Hp) (Q:VK):Prop
 | mk:∀ (p q:Addr) (ka kb U:List Int),x=.ref p->y=.ref q->p≠q->H p=some (ic P w p ka)->H q=some (ic P w q kb)->U.length<=62->(∀ y∈ka,y∈U)->(∀ y∈kb,y∈U)->(∀ l ks,H l=none->ks.Nodup->(∀ y,y∈ks↔y∈ka\/y∈kb)->Q Zg ZD7)->Cq P w x y H Q
theorem zA (F:X.prog=P:=by rfl) (L:X.w=w:=by rfl):OpR X (binaryOp .BitOr) (Cq P w):=by
 subst F;subst L
 intro pins s σ H x y v u Q I R V h
 obtain⟨p,q,Z,kb,U,rfl,rfl,O,G,J,j,W,Y,z⟩:=h
 cases R;cases V
 refine CG (ic.get (I.hok _ _ G)) (ic.get (I.hok _ _ J)) O j W Y λ h' ks S m M=>?_
 exact⟨ZD,_,I.laid (t':=s.toks) M Z9 (ic.ok S),rfl,z _ ks I.fresh S.nodup m⟩
inductive vg (P:Program) (w:World) (xs:List V) (H:Hp) (Q:VK):Prop
 | mk:∀ p ks,xs=[Zs]->H p=some (ic P w p ks)->(∀ l ns,H l=none->ns.Perm ks->ns.Pairwise (· <= ·)->Q Zg (upd H l ZHY))->vg P w xs H Q
theorem qj (U:X.calm=true) (R:X.prog=P:=by rfl) (W:X.w=w:=by rfl):eG X (.builtin "sorted") (vg P w):=by
 subst R;subst W
 intro pins s σ H xs us Q I r h
 obtain⟨p,ks,rfl,V,q⟩:=h
 obtain⟨u,rfl,rx⟩:=Z4x
 cases rx
 have S:=ic.get (I.hok _ _ V)
 refine tJ (p6 (by simpa using I.ok.hd U) S λ vs ns h1 tk M J Z=>⟨ns,M,?_,λ G j h' c F e O z so=>?_⟩)
 ·have:=S.few;have:=J.length_eq;have:=IntsAre.length M;lia
 ·have L:Inv X pins σ H { s with heap:=h1,toks:=tk }:=I.kept Z
  have Y:(iV j).length<=sizeLine:=by
   unfold iV;rw[FO,z.length_eq,J.length_eq];exact gH (Gd S.few Z1)
  exact⟨.ref h1.objs.size,_,L.laid (t':=tk) F Z9 (show dm X.prog X.w _ h' _ (.lst (iV j)) from ⟨Y,G.toList,c,rh O,by rw[e]⟩),rfl,q _ j L.fresh (z.trans J) so⟩
end
noncomputable def gM (lo hi:Int):Zc:=(List.range (hi-lo).toNat).map λ i:Nat=>lo+i
theorem gB {lo hi y:Int}:y∈gM lo hi↔lo<=y/\y<hi:=by
 unfold gM
 rw[F2]
 constructor
 ·rintro⟨i,hi,rfl⟩
  rw[HL] at hi
  lia
 ·rintro⟨h1,h2⟩
  exact⟨(y-lo).toNat,HL.mpr Z1,Z1⟩
theorem gu {lo hi:Int}:(gM lo hi).length=(hi-lo).toNat:=by unfold gM;rw[FO,Il]
section
variable {X:Cx}{K:PySem.W.Frag}{P:Program}{w:World}
inductive ym (xs:List V) (H:Hp) (Q:VK):Prop
 | mk:∀ i j:Int,xs=[Z08,Z0r]->(∀ l,H l=none->Q Zg (upd H l ZHV))->ym xs H Q
theorem sW:eG X (.type "range") ym:=by
 intro pins s σ H xs J Q I r h
 obtain⟨i,j,rfl,q⟩:=h
 cases r with
 | cons r z=>
  cases z with
  | cons F z=>
   cases z
   obtain⟨t,rfl⟩:=r
   obtain⟨G,rfl⟩:=F
   refine call_range_2 ⟨ZD,_,I.laid ZBd Z9 (show dm X.prog X.w _ _ _ ZHV from ZJz),rfl,ZA3⟩
inductive wu (xs:List V) (H:Hp) (Q:VK):Prop
 | mk:∀ (p:Addr) (i j:Int),xs=[Zs]->H p=some ZHV->(-(2 ^ 62)<=i/\i<2 ^ 62 /\ -(2 ^ 62)<=j/\j<2 ^ 62)->(j-i).toNat<=1000->(∀ l,H l=none->Q Zg (upd H l ZF9))->wu xs H Q
theorem tI:∀ {n:Nat}{acc:Array Value},ItemsOf (λ k v=>∃ t,v=Value.int (i+k*1) t) acc n->Vals (iV ((List.range n).map λ k:Nat=>i+k)) acc.toList:=by
 intro n acc h
 have j:∀ (l:List Value) (m:Nat),(∀ k v,l[k]? = some v->∃ t,v=Value.int (i+((m+k:Nat):Int)) t)->Vals (iV ((List.range' m l.length).map λ k:Nat=>i+k)) l:=by
  intro l
  induction l with
  | nil=>intro m _;exact .nil
  | cons v l z=>
   intro m q
   obtain⟨t,rfl⟩:=q 0 v rfl
   refine .cons Z7N (z (m+1) λ k u e=>?_)
   obtain⟨t,rfl⟩:=q (k+1) u (by simpa using e)
   exact⟨t,by rw[show m+(k+1)=m+1+k by lia]⟩
 have:=j acc.toList 0 λ k v e=>by
  obtain⟨t,rfl⟩:=h.2 k v (by rw[<- Gz];exact e)
  exact⟨t,Ze⟩
 rw[F3,h.1,<- List.range_eq_range'] at this
 exact this
theorem iX (U:X.calm=true):eG X (.type "list") wu:=by
 intro pins s σ H xs us Q I r h
 obtain⟨p,i,j,rfl,W,⟨J,L,M,O⟩,G,q⟩:=h
 obtain⟨u,rfl,rx⟩:=Z4x
 cases rx
 obtain⟨t,u,v,e⟩:=I.hok _ _ W
 have V:Builtin.Range.rangeSize i j 1=((j-i).toNat:Nat):=by rw[rangeSize_one];split<;>lia
 refine call_list_range (I.ok.hd U) e (small_one J L M O) V Z1 λ h' tk z R Z S F=>?_
 have Y:(iV (gM i j)).length<=sizeLine:=by
  unfold iV;rw[FO,gu]
  exact Gd G Z4
 refine⟨ZD,_,I.laid Z Z9 (show dm X.prog X.w _ h' _ ZF9 from ⟨Y,z.toList,R,tI F,by rw[S]⟩),rfl,ZA3⟩
end
section
variable {X:Cx}{pins:List (Addr×Obj)}{σ:St}{H:Hp}{s:Shared}{h':Heap}
theorem Inv.jA {t':Nat}{its:Zq}{a:Addr}{o:HO}(I:Z7) (k:∀ b u,b∉its->s.heap.get? b=some u->h'.get? b=some u) (L:∀ b∈its,Z33)
  (O:s.heap.objs.size<=a) (M:ZBz):Inv X pins σ Z3W { s with heap:=h',toks:=t' }:=by
 have F:H a=none:=I.hok.fresh O
 have G:∀ b u,H b=some u->b∉its:=λ b u e z=>by rw[(L b z).1] at e;cases e
 have Z:∀ b u,s.heap.get? b=some u->b≠a:=λ b u e z=>absurd (F9 ZK (by rw[z];exact O)) Z60
 refine I.step (g':=s.gens) (d':=s.drawn) (ch:=its) (λ b J=>?_) Z9Y Z5l (λ b u _ e n=>by rw[cz (Z b u e)];exact n)
  Z8n (λ b xs e=>by rw[Z3R];exact e) (λ b u v e=>by rw[Z3R];exact e) (λ b ps e=>⟨#[],by rw[Z3R,e];simp⟩) (λ m W=>?_) (λ b u e=>?_) I.bare
 ·obtain⟨f0,R,f2,S,U,V⟩:=L b J
  exact⟨S,R,U,V⟩
 ·obtain⟨u,es,ep,Y,r⟩:=W
  exact⟨u,es,ep,k _ u (λ z=>(L _ z).2.1 rfl) Y,r⟩
 ·by_cases J:b=a
  ·subst J;rw[cy] at e;cases e;exact M
  ·rw[cz J] at e
   refine(ZFc).lI ZCI (λ c q=>by rw[cz (cB q F)];exact q) λ c xs q=>by rw[cz (cB q F)];exact q
   rcases j with z|z
   ·rw[z];exact G b u e
   ·exact G c _ z
theorem Inv.mH {t':Nat}{its:Zq}(I:Z7) (k:∀ b u,b∉its->s.heap.get? b=some u->h'.get? b=some u) (G:∀ b∈its,Z33):Inv X pins σ H { s with heap:=h',toks:=t' }:=by
 have F:∀ b u,H b=some u->b∉its:=λ b u e z=>by rw[(G b z).1] at e;cases e
 refine I.step (g':=s.gens) (d':=s.drawn) (ch:=its) (λ b R=>?_) Z9Y Z5l (λ b u _ e n=>n)
  Z8n (λ b xs e=>e) (λ b u v e=>e) (λ b ps e=>⟨#[],by rw[e];simp⟩) (λ m S=>?_) (λ b u e=>?_) I.bare
 ·obtain⟨V,J,W,L,M,O⟩:=G b R
  exact⟨L,J,M,O⟩
 ·obtain⟨u,es,ep,U,r⟩:=S
  exact⟨u,es,ep,k _ u (λ z=>(G _ z).2.1 rfl) U,r⟩
 ·refine(ZFc).lI ZCI (λ c q=>q) λ c xs q=>q
  rcases j with z|z
  ·rw[z];exact F b u e
  ·exact F c _ z
end
noncomputable def Itz (K:PySem.W.Frag) (l1 l2:Addr):It:=
  ⟨λ i H=>∃ xs ys x y,SqL K H l1 xs/\SqL K H l2 ys/\xs[i]? = some x/\ys[i]? = some y,
   λ i H v H'=>∃ p x y,H p=none/\v=.ref p/\H'=upd H p Z9L/\(∀ xs,SqL K H l1 xs->xs[i]? = some x)/\∀ ys,SqL K H l2 ys->ys[i]? = some y,
   λ i H=>∃ xs ys,SqL K H l1 xs/\SqL K H l2 ys/\(xs.length<=i\/ys.length<=i)⟩
theorem uk {P:Program}{w:World}{K:PySem.W.Frag}{es:Z3D}{kk:Nat}{pos:Pos}(z L M R S l1 l2:Addr) (D:ZipApart z L M R S l1 l2) :
  Turn P w K Z8L (Itz K l1 l2) [z,L,M,R,S] z
   (λ i h=>IsZip h z L M .none/\IsPair h L (.ref R) (.ref S)/\(∃ a b,IsPair h M a b)/\h.IsListIter R l1 i/\h.IsListIter S l2 i) where
 mem:=Ze
 obj:=λ i h st b hb=>by
  obtain⟨J,j,⟨a,c,G⟩,⟨o1,e1,_,d1⟩,⟨o2,e2,_,d2⟩⟩:=st
  simp only[FR,FU,Ga] at hb
  rcases hb with rfl|rfl|rfl|rfl|rfl
  ·exact⟨_,J,λ v q=>by cases q⟩
  ·exact⟨_,j,λ v q=>by cases q⟩
  ·exact⟨_,G,λ v q=>by cases q⟩
  ·exact⟨_,e1,λ v q=>by rw[d1] at q;cases q⟩
  ·exact⟨_,e2,λ v q=>by rw[d2] at q;cases q⟩
 keep:=λ i h h' st k=>by
  obtain⟨J,j,⟨a,b,G⟩,h1,h2⟩:=st
  exact⟨k z Z8 _ J,k L Ze _ j,⟨a,b,k M Z8F _ G⟩,h1.at λ o e=>k R ZFQ o e,h2.at λ o e=>k S (by simp) o e⟩
 item:=by
  intro X hP hw hK F i pins s σ H E I hf st hg
  subst hP hw hK
  obtain⟨xs,ys,x,y,q1,q2,hx,hy⟩:=hg
  obtain⟨a8,U,p1,ad⟩:=I.list q1
  obtain⟨a9,V,p2,ae⟩:=I.list q2
  obtain⟨u1,aa,ag⟩:=U.get hx
  obtain⟨u2,ab,ah⟩:=V.get hy
  obtain⟨J,j,⟨a,b,G⟩,h1,h2⟩:=st
  have W:∀ {c o},s.heap.get? c=some o->s.heap.objs.size≠c:=λ e=>GV ZK
  have n1:s.heap.objs.size≠z:=W J
  refine wpAny_pyNext_zip_item D J j G h1 h2 p1.isList p2.isList (x:=u1) (y:=u2) (by simpa using aa) (by simpa using ab) λ h' a1 a2 a3 a4 a5 a6 hk=>?_
  refine⟨_,rfl,wpAny_letOwnedTupleGo_zip a1 λ O a7 Y=>?_⟩
  have k2:∀ c o,c∉[z,L,M,R,S]->s.heap.get? c=some o->O.get? c=some o:=λ c o F e=>by
   simp only[FR,FU,Ga,Hz] at F
   rw[Y.2 c F.1]
   exact Z68
  have af:dm X.prog X.w (upd H s.heap.objs.size Z9L) O s.heap.objs.size Z9L:=by
   have e5:O.get? s.heap.objs.size=some { cls:=.type "tuple",data:=.seq #[u1,u2] }:=(Y.2 _ n1).trans a5
   exact⟨gH Z8,[u1,u2],.cons ag (.cons ah .nil),_,e5,rfl,_,rfl⟩
  refine⟨ZD,_,I.jA (t':=s.toks) k2 hf Z9 af,rfl,⟨_,x,y,I.fresh,rfl,rfl,λ zs hs=>by rw[I.ia hs q1];exact hx,λ zs hs=>by rw[I.ia hs q2];exact hy⟩,?_,λ c F=>?_⟩
  ·exact⟨a7,(Y.2 _ D.TIz).trans (hk _ _ D.TIz D.TITO D.TIi1 D.TIi2 j),⟨_,_,(Y.2 _ D.TOz).trans a2⟩,a3.extBut Y.extBut D.i1z,a4.extBut Y.extBut D.i2z⟩
  ·rw[cz]
   ·exact(hf c F).1
   ·simp only[FR,FU,Ga] at F
    rcases F with rfl|rfl|rfl|rfl|rfl
    ·exact Ne.symm (W J)
    ·exact Ne.symm (W j)
    ·exact Ne.symm (W G)
    ·obtain⟨_,e,_⟩:=h1;exact ZLm
    ·obtain⟨_,e,_⟩:=h2;exact ZLm
 done:=by
  intro X hP hw hK F i pins s σ H E I hf st hg
  subst hP hw hK
  obtain⟨xs,ys,q1,q2,Z⟩:=hg
  obtain⟨a8,U,p1,ad⟩:=I.list q1
  obtain⟨a9,V,p2,ae⟩:=I.list q2
  obtain⟨J,j,⟨a,b,G⟩,h1,h2⟩:=st
  have ai:=U.length
  have aj:=V.length
  refine wpAny_pyNext_zip_end (I.ok.hd F) D J j G h1 h2 p1.isList p2.isList (by
   rcases Z with z|z
   ·exact .inl (by simp;lia)
   ·exact .inr (by simp;lia)) λ h' hk=>⟨rfl,I.mH (t':=s.toks) (its:=[z,L,M,R,S]) (λ c o F e=>?_) hf⟩
  simp only[FR,FU,Ga,Hz] at F
  exact Z68
 self:=λ _ _ _ _ _ st h=>wpAny_pyIter_zip st.1 h
section
variable {X:Cx}{K:PySem.W.Frag}
inductive za (K:PySem.W.Frag) (R:It->Hp->Prop) (vs:List V) (H1:Hp):Prop
 | mk:∀ p q xs ys,vs=[Zs,Z2P]->SqL K H1 p xs->SqL K H1 q ys->R (Itz K p q) H1->za K R vs H1
def Fs (K:PySem.W.Frag) (ta:TA):TI:=λ σ H R=>ta σ H λ vs H1=>za K R vs H1
theorem zr {a b:Expr}{ta:TA}{p pos pos':Pos}{es:Z3D}{kk:Nat}(hg:Gl X "zip") (hm:X.mg "zip" = none) (ha:PA X ZLc ta) (hs:starEach ZLc X.env=[(false,Z3p),(false,Z4q)]:=by rfl) (z:starEach [b] X.env=[(false,Z4q)]:=by rfl) (hK:X.K=K:=by rfl) :
  PI X ZG6 (.Call (.Name "zip" p) ZLc [] pos) (Fs K ta):=by
 subst hK
 intro pins s σ H R I h
 refine Call_ (gJ I hg hm boot_zip (HF (thn ZBA λ us F w=>?_) (by rw[hs,z]) (by rw[z];rfl)))
 obtain⟨vs,H1,j,r1,O⟩:=w
 obtain⟨G,J,xs,ys,rfl,O,q2,q⟩:=O
 obtain⟨u,v,rfl,rx,ry⟩:=vals2 r1
 cases rx;cases ry
 obtain⟨V,a3,Y,a1⟩:=j.list O
 obtain⟨W,a4,p2,a2⟩:=j.list q2
 have L:G<F.heap.objs.size:=by obtain⟨o,e,_⟩:=Y.isList;exact ZK
 have M:J<F.heap.objs.size:=by obtain⟨o,e,_⟩:=p2.isList;exact ZK
 refine call_zip_2 Y.isList p2.isList λ h' Z z2 z3 z4 z5 z6 kp=>?_
 refine wpAny_pyIter_zip Z ?_
 refine⟨_,_,_,Itz X.K G J,H1,rfl,j.kept (t':=F.toks) kp,uk _ _ _ _ _ G J (zipApart_new L M),⟨Z,z2,⟨_,_,z3⟩,z4,z5⟩,λ b U=>?_,q⟩
 have S:F.heap.objs.size<=b:=by
  simp only[FR,FU,Ga] at U
  rcases U with rfl|rfl|rfl|rfl|rfl<;>first|exact Nat.le_refl _|exact Jx _ _
 exact j.mT S (j.hok.fresh S)
inductive Eh (K:PySem.W.Frag) (xs:List V) (H:Hp) (Q:VK):Prop
 | mk:∀ (p:Addr) (bs:List Bool),xs=[Zs]->SqL K H p (bs.map V.bl)->Q (.bl (bs.all id)) H->Eh K xs H Q
theorem tF (Y:X.calm=true) (W:X.K=K:=by rfl):eG X (.builtin "all") (Eh K):=by
 subst W
 intro pins s σ H xs us Q I r h
 obtain⟨p,j,rfl,O,q⟩:=h
 obtain⟨u,rfl,rx⟩:=Z4x
 cases rx
 obtain⟨z,M,L,hz⟩:=I.list O
 have F:j.length=z.length:=by have:=M.length;rwa [FO] at this
 have lt:p<s.heap.objs.size:=by obtain⟨o,e,_⟩:=L.isList;exact ZK
 refine call_all_walk (Ik L.isList ⟨s.heap.objs.size,_,_,_,_,_,λ i=>ZKF,rfl,Walks.list (by simpa using I.ok.hd Y) s.heap.objs.size p (F1 lt) z.toArray,⟨⟨_,Heap.get?_push_size _ rfl,rfl,rfl⟩,L.isList.push _⟩,λ i v s Q E Z J=>?_,λ h' tk kp=>?_⟩)
 ·have G:z[i]? = some v:=by simpa using Z
  have S:i<j.length:=by rw[F];exact(FK.mp G).1
  obtain⟨u,R,ru⟩:=M.get (i:=i) (x:=V.bl j[i]) (by rw[FP,FJ S];rfl)
  rw[G] at R
  cases R
  cases ru
  have e:j.getD i false=j[i]:=by rw[HM,FJ S];rfl
  dsimp only at J
  rw[e] at J
  exact Hh J
 ·have U:Inv X pins σ H { s with heap:=h',toks:=tk }:=I.kept λ b o e=>kp b o (by simp only[FL];exact F1 ZK) ZH
  have e:(List.range z.toArray.size).all (λ i=>ZKF)=j.all id:=by
   rw[F7,<- F]
   clear q M hz O F
   induction j with
   | nil=>rfl
   | cons b j ih=>
    rw[GF,List.range_succ_eq_map,Jt,JD,Jt,<- ih]
    rfl
  rw[e]
  exact⟨.bl (j.all id),H,U,rfl,q⟩
end
end L2
namespace L2
theorem mL (h:ZLl) (k:PE X e u):PE X e (λ σ H Q=>t σ H Q\/u σ H Q):=by
 intro pins s σ H Q I q
 rcases q with q|q
 ·exact h pins s σ H Q I q
 ·exact k pins s σ H Q I q
open PySem PySem.Spec PyProof.Rows
noncomputable def isStar:Expr->Bool
 | .Starred .. => true
 | _=>false
theorem rK (h:isStar e=false):starEach (e::es) env=(false,ZBx)::starEach es env:=by
 cases e<;>first|rfl|cases h
theorem cF (j:Z4M) (q:ZE7) (h:isStar e=false:=by rfl):PA X (e::es) ZJe:=xY j q (rK h)
open PySem PySem.Spec PyProof.Rows SetT
abbrev Nx (n i:Nat) (A:Prop):Prop:=∃ m',m'<n-i/\(m'=n-(i+1)/\i+1<=n/\A)
theorem Nx.mk (h:i<n) (a:A):Nx n i A:=⟨n-(i+1),Z1,rfl,h,a⟩
theorem dU {K:PySem.W.Frag}{a:Addr}{xs:Z04}{k:Nat}{g:TG}{tc:TT}{te:TE}{σ:St}{H1:Hp}{Q:VK}(R:xs.length<=1000)
  (h:∀ acc,H1 acc=none->∃ F:Nat->St->List V->Hp->Prop,F 0 (σ++List.replicate k none) [] Z3H/\(∀ i j ys H2,i<=xs.length->F i j ys H2->SqL K H2 a xs/\ys.length<=i) /\
   (∀ i x j ys H2,i<xs.length->xs[i]? = some x->F i j ys H2->g x j H2 λ z O=>tc z O λ b L=>if b=true then te z L λ v M=>M acc=some Zb/\Nx xs.length i (F (i+1) z (ys++[v]) (upd M acc (.lst (ys++[v])))) else Nx xs.length i (F (i+1) z ys L)) /\
   ∀ j ys H2,F xs.length j ys H2->Q Zt H2):je ZAM k g tc te σ H1 Q:=by
 intro acc S
 obtain⟨F,U,Y,ps,W⟩:=h acc S
 refine⟨λ i m j ys H2=>m=xs.length-i/\i<=xs.length/\F i j ys H2,⟨xs.length,Ze,Z8g,U⟩,?_⟩
 rintro i m j ys H2 ⟨rfl,hi,p⟩
 obtain⟨q,J⟩:=Y i j ys H2 hi p
 by_cases G:i<xs.length
 ·refine .inr ⟨⟨xs,xs[i],q,by simp[G]⟩,GI J (dc (by lia)),λ x Z y=>?_⟩
  obtain⟨e,y⟩:=y
  subst e
  exact ZB2
 ·have e:i=xs.length:=Z1
  subst e
  exact .inl ⟨ZL1,W j ys H2 p⟩
theorem eO {lo:Int}{n:Nat}{k:Nat}{g:TG}{tc:TT}{te:TE}{σ:St}{H1:Hp}{Q:VK}(O:n<=1000)
  (h:∀ acc,H1 acc=none->∃ z:Nat->St->List V->Hp->Prop,z 0 (σ++List.replicate k none) [] Z3H/\(∀ i j ys H2,i<=n->z i j ys H2->ys.length<=i) /\
   (∀ i j ys H2,i<n->z i j ys H2->g (.int (lo+i)) j H2 λ q M=>tc q M λ b J=>if b=true then te q J λ v L=>L acc=some Zb/\Nx n i (z (i+1) q (ys++[v]) (upd L acc (.lst (ys++[v])))) else Nx n i (z (i+1) q ys J)) /\
   ∀ j ys H2,z n j ys H2->Q Zt H2):je ZCp k g tc te σ H1 Q:=by
 intro acc R
 obtain⟨z,S,W,ps,U⟩:=h acc R
 refine⟨λ i m j ys H2=>m=n-i/\i<=n/\z i j ys H2,⟨n,Ze,Z8g,S⟩,?_⟩
 rintro i m j ys H2 ⟨rfl,hi,p⟩
 have G:=W i j ys H2 hi p
 by_cases F:i<n
 ·refine .inr ⟨F,GI G (dc Z1),λ x Y y=>?_⟩
  obtain⟨e,rfl⟩:=y
  subst e
  exact ps i j ys _ F p
 ·have e:i=n:=Z1
  subst e
  exact .inl ⟨Z9,U j ys H2 p⟩
def But (S:Zq) (H H':Hp):Prop:=∀ b o,b∉S->H b=some o->H' b=some o
theorem But.of (h:Z1t):Z8j:=λ b o _ e=>h b o e
theorem But.same (h:Z8j) (s:ZGO) (j:∀ b∈S,G b=none):ZAC:=λ b o e=>h b o (λ z=>by rw[j b z] at e;cases e) (s b o e)
theorem But.trans (h:Z8j) (k:But S H' H''):But S H H'':=λ b o n e=>k b o n (h b o n e)
theorem But.mono (h:Z8j) (k:∀ b∈S,b∈S'):But S' H H':=λ b o n e=>h b o (λ z=>n (k b z)) e
theorem But.upd:But [p] H (upd H p o):=λ b u n e=>by rw[cz (λ z=>n (by simp[z]))];exact e
structure fD (H G G' H':Hp):Prop where
 sub:Z7Y
 held:ZL_
 new:∀ b o,G' b=some o->G b=some o\/H b=none
theorem fD.free (g:ZDu) (h:H b≠none) (n:G b=none):G' b=none:=by
 cases e:G' b with
 | none=>rfl
 | some o=>
  rcases g.new b o e with z|z
  ·rw[n] at z;cases z
  ·exact absurd z h
def okD (n:Nat) (d:PyData):Prop:=d.canLay0=true/\d.depth<=n/\noDict d=true
theorem okD.int:okD n (Z08):=⟨by simp[PyData.canLay0],by simp[PyData.depth],by simp[noDict]⟩
theorem okD.bool:okD n (.bool i):=⟨by simp[PyData.canLay0],by simp[PyData.depth],by simp[noDict]⟩
theorem okD.none:okD n .none:=⟨by simp[PyData.canLay0],by simp[PyData.depth],by simp[noDict]⟩
theorem okD.all:∀ {xs:List PyData},(∀ d∈xs,Z8Y)->PyData.canLayAll0 xs=true/\PyData.depthAll xs<=n/\noDicts xs=true
 | [],_=>⟨by simp[PyData.canLayAll0],by simp[PyData.depthAll],by simp[noDicts]⟩
 | x::xs,h=>by
  obtain⟨a,b,c⟩:=okD.all λ d z=>h d (FW _ z)
  obtain⟨j,F,q⟩:=ZGM
  refine⟨by simp[PyData.canLayAll0,a,j],?_,by simp[noDicts,c,q]⟩
  rw[PyData.depthAll]
  lia
theorem okD.list (h:∀ d∈xs,Z8Y):okD (n+1) (.list xs):=by
 obtain⟨a,b,c⟩:=okD.all h
 exact⟨by simp[PyData.canLay0,a],by rw[PyData.depth];lia,by simp[noDict,c]⟩
theorem okD.tuple (h:∀ d∈xs,Z8Y):okD (n+1) (.tuple xs):=by
 obtain⟨a,b,c⟩:=okD.all h
 exact⟨by simp[PyData.canLay0,a],by rw[PyData.depth];lia,by simp[noDict,c]⟩
theorem okD.mono (h:Z8Y) (l:n<=m):okD m d:=⟨h.1,Gd h.2.1 l,h.2.2⟩
theorem okD.shaped (h:Z8Y) (l:n<=64):SeqAt.shaped d=true:=by
 unfold SeqAt.shaped
 rw[h.1,Gg (Gd h.2.1 l)]
 rfl
theorem okD.self (h:Z8Y):PyData.eqv d d=true:=kY h.2.2
theorem j8 {K:PySem.W.Frag}{H:Hp}:∀ {ns:List Int},eF K H Z1Z (ns.map PyData.int)
 | []=>.nil
 | n::ns=>.cons (.int n) j8
theorem oz {n:Nat}{ns:Zc}:∀ d∈ns.map PyData.int,Z8Y:=λ d hd=>by
 obtain⟨i,_,rfl⟩:=F2.mp hd
 exact .int
theorem fD.freeze (g:ZDu) (n:H p=none) (h:H' p=some o):fD H G (L2.upd G' p o) H':=by
 refine⟨λ b u e=>?_,λ b u e=>?_,λ b u e=>?_⟩
 ·by_cases j:b=p
  ·subst j
   have:=ZKJ
   rw[h] at this
   rw[cy];exact this
  ·rw[cz j];exact ZA7
 ·by_cases j:b=p
  ·subst j;rw[cy] at e;rw[h];exact e
  ·rw[cz j] at e;exact g.held _ _ e
 ·by_cases j:b=p
  ·subst j;exact .inr n
  ·rw[cz j] at e;exact g.new _ _ e
theorem fD.then (g:ZDt) (k:ZKL) (s:∀ b o,H b=some o->∃ u,H1 b=some u):fD H G G2 H2:=
 ⟨g.sub.trans k.sub,k.held,λ b o e=>by
  rcases k.new b o e with z|z
  ·exact g.new b o z
  ·refine .inr ?_
   cases q:H b with
   | none=>rfl
   | some u=>obtain⟨F,j⟩:=s b u q;rw[z] at j;cases j⟩
theorem eF.len {K:PySem.W.Frag}{H:Hp}:∀ {xs:List V}{ds:List PyData},eF K H xs ds->xs.length=ds.length
 | _,_,.nil=>rfl
 | _,_,.cons _ r=>by simp[eF.len r]
section
variable {X:Cx}{e a b:Expr}{es:List Expr}{te ta tb:TE}{t:TA}{pos:Pos}{ks:List (Option Expr)}{vs:List Expr}{ts:List (TE×TE)}
end
def Top (val:Nat->Int) (j:Nat) (m:Int):Prop:=(∀ i,i<j->val i<=m)/\∃ i,i<j/\val i=m
section
variable {prog:Program}{w:World}{A:Around}{R:Result->Shared->Prop}{it S:Addr}{fp wr:List Addr}{n:Nat}{Pi:Nat->Value->Prop}{St:Nat->Heap->Prop}{kw:List (Str×Value)}{val:Nat->Int}
theorem uW (W:Z19) (hv:∀ i v,Pi i v->∃ t,v=.int (val i) t) (out:S∉fp) :
  ∀ (left j:Nat) (s:Shared) (m:Int) (t:Tok) (c:Nat),left=n-j->0<j->j<=n->St j s.heap->Top val j m ->
   s.heap.get? S=some { cls:=.type "list",dict:=none,data:=.seq #[.int m t,.int m t] c,slots:=#[] } ->
   (∀ m' t' h' tk,Top val n m'->(∀ b o,b∉wr->b≠S->s.heap.get? b=some o->h'.get? b=some o)->R (.ok (.ret (.int m' t'))) { s with heap:=h',toks:=tk }) ->
   codeAny ZF A (.builtin "max.loop" ⟨Z3O,kw⟩) R s:=by
 have M:S∉wr:=λ z=>Z6K
 have nm:(toString "max" ++ toString ".loop" :ZDR) = "max.loop":=Z4
 intro left
 induction left with
 | zero=>
  intro j s m t c hl h0 hj V tp hS J
  obtain rfl:j=n:=Z1
  refine Z64
  rw[Z29]
  refine Z2I
  refine FI (HI (W.done s _ _ V λ h' tk kp=>?_))
  refine FI (Hw (kp S _ M hS) rfl ZCC)
  exact J m t _ tk tp λ b o Z nS e=>ZCT
 | succ left ih=>
  intro j s m t c hl h0 hj V tp hS J
  have lt:j<n:=Z1
  refine Z64
  rw[Z29]
  refine Z2I
  refine FI (HI (W.item j s _ _ lt V λ v h' tk pv L kp=>?_))
  have U:=kp S _ M hS
  obtain⟨u,rfl⟩:=hv j v pv
  refine Z6v
  refine ZHs
  refine CmpOf.ints_gt (P:=λ i v=>∃ t,v=.int ([ZGn,m].getD i 0) t) (λ i=>[ZGn,m].getD i 0) (λ _ _ z=>z) 0 1 _ _ _ _ _ ⟨u,rfl⟩ Z7N ?_
  refine ZJH
  refine ZCC
  by_cases g:val j>m
  ·have a1:Top val (j+1) (ZGn):=⟨λ i hi=>by
    by_cases e:i=j
    ·subst e;lia
    ·have:=tp.1 i Z1;lia,j,Z1,rfl⟩
   have gb:(λ i j'=>decide ([ZGn,m].getD i 0 > [ZGn,m].getD j' 0)) 0 1=true:=Gg g
   rw[FX gb]
   refine FI (Hw U rfl ZCD)
   rw[nm]
   refine FN ⟨Z3v,ih (j+1) _ ZGn u _ Z1 Z1 lt Z8H a1 (Heap.get?_update_self _ U rfl) λ m' t' O G q Y=>?_⟩
   ·exact(Heap.get?_update_other _ _ (λ z:S=b=>out (z ▸ hb))).trans e
   ·exact J m' t' O G q λ b o Z nS e=>Y b o Z nS ZCT
  ·have a1:Top val (j+1) m:=⟨λ i hi=>by
    by_cases e:i=j
    ·subst e;lia
    ·exact tp.1 i Z1,let ⟨i,a,b⟩:=tp.2;⟨i,Z1,b⟩⟩
   have gb:¬ ((λ i j'=>decide ([ZGn,m].getD i 0 > [ZGn,m].getD j' 0)) 0 1=true):=λ z=>g (GH z)
   rw[FV gb]
   refine ZCD
   rw[nm]
   refine FN ⟨Z3v,ih (j+1) _ m t c Z1 Z1 lt L a1 U λ m' t' O G q Y=>?_⟩
   exact J m' t' O G q λ b o Z nS e=>Y b o Z nS (kp b o Z e)
theorem tQ (W:Z19) (hv:∀ i v,Pi i v->∃ t,v=.int (val i) t) (out:S∉fp) (J:St 0 s.heap) (hS:s.heap.get? S=some { cls:=.type "list",dict:=none,data:=.seq #[] c,slots:=#[] })
  (none:n=0->∃ k d j,kw=(k,d)::j/\∀ h' tk,(∀ b o,b∉wr->b≠S->s.heap.get? b=some o->h'.get? b=some o)->R (.ok (.ret d)) { s with heap:=h',toks:=tk })
  (Z:∀ V t' h' tk,Top val n V->(∀ b o,b∉wr->b≠S->s.heap.get? b=some o->h'.get? b=some o)->R (.ok (.ret (.int V t'))) { s with heap:=h',toks:=tk }) :
  codeAny ZF A (.builtin "max.loop" ⟨Z3O,kw⟩) R s:=by
 have M:S∉wr:=λ z=>Z6K
 have nm:(toString "max" ++ toString ".loop" :ZDR) = "max.loop":=Z4
 refine Z64
 rw[Z29]
 refine Z2I
 by_cases n0:n=0
 ·obtain⟨k,d,j,rfl,q⟩:=none n0
  refine FI (HI (W.done s _ _ (by rw[n0];exact J) λ h' tk U=>?_))
  exact FI (Ia (FN (q h' tk λ b o Y _ e=>U b o Y e)))
 ·refine FI (HI (W.item 0 s _ _ Z1 J λ v h' tk pv L U=>?_))
  have G:=U S _ M hS
  obtain⟨u,rfl⟩:=hv 0 v pv
  refine Z6v
  refine FI (Hw G rfl ?_)
  rw[nm]
  refine FN ⟨Z3v,uW W hv out (n-1) 1 _ (val 0) u _ rfl Z1 Z1 Z8H ⟨λ i hi=>?_,0,Z1,rfl⟩ (Heap.get?_update_self _ G rfl) λ V t' a1 O q a2=>?_⟩
  ·exact(Heap.get?_update_other _ _ (λ z:S=b=>out (z ▸ hb))).trans e
  ·obtain rfl:i=0:=Z1
   exact Z9U
  ·exact Z V t' a1 O q λ b o Y nS e=>a2 b o Y nS ((Z0E).trans (U b o Y e))
end
theorem sS (a d):argsOk "max" ⟨[a],[("default",d)]⟩:=by unfold argsOk;kernel_rfl
section
variable {X:Cx}{K:PySem.W.Frag}
def vv (ns:Zc) (m:Int):Prop:=m∈ns/\∀ z∈ns,z<=m
theorem uK (h:Top (λ i=>ZFJ) ns.length m):vv ns m:=by
 obtain⟨h1,i,hi,e⟩:=h
 have g:∀ j (q:j<ns.length),ns.getD j 0=ns[j]:=λ j q=>by rw[HM,FJ q];rfl
 refine⟨?_,λ z G=>?_⟩
 ·have F:ns.getD i 0=m:=e
  rw[g i hi] at F
  rw[<- F];exact Kg hi
 ·obtain⟨j,q,rfl⟩:=Gm G
  have:=h1 j q
  simp only[] at this
  rw[g j q] at this;exact this
theorem xM (hc:X.calm=true) (I:Z7) (hq:SqL X.K H l Z1Z)
  (h0:ns=[]->∃ k d j,kw=(k,d)::j/\∃ x,RelV x d/\Q x H) (h1:∀ m,vv ns m->Q Z1M H) :
  wpAny Z3 X.A.in1 (pyIter Zg) (λ it Y=>∃ Z:Addr,it=.ref Z/\codeAny Z3 X.A (.builtin "max.loop" ⟨[.ref Z,.none,.ref Y.heap.objs.size],kw⟩)
   (λ r s'=>match r with | .ok (.ret v)=>EP X pins σ Q v s' | .ok _=>False | .error e=>X.xe e s') { Y with heap:=Y.heap.push { cls:=.type "list",data:=.seq #[] 0 } }) X.xe s:=by
 obtain⟨F,rv,U,hz⟩:=ZEB
 have hI:=mF rv
 have O:=IntsAre.length hI
 have lt:l<s.heap.objs.size:=by obtain⟨o,e,_⟩:=U.isList;exact ZK
 refine Ik U.isList ⟨s.heap.objs.size,rfl,?_⟩
 have W:=Walks.list (A:=X.A.in1) (prog:=X.prog) (w:=X.w) (by simpa using I.ok.hd hc) s.heap.objs.size l (F1 lt) F.toArray
 have sz:(s.heap.push { cls:=.type "list_iterator",data:=.fields #[Z3G,Z6l] }).objs.size=s.heap.objs.size+1:=Heap.size_push ..
 have nl:F.toArray.size=ns.length:=by rw[F7];lia
 have L:∀ {h':Heap},(∀ b o,b∉[s.heap.objs.size]->b≠s.heap.objs.size+1->((s.heap.push { cls:=.type "list_iterator",data:=.fields #[Z3G,Z6l] }).push { cls:=.type "list",data:=.seq #[] 0 }).get? b=some o->h'.get? b=some o)->∀ b o,s.heap.get? b=some o->h'.get? b=some o:=λ J b o e=>by
  have lb:=ZK
  exact J b o (by simp only[FL];exact F1 lb) (F1 (GY lb)) Z4T
 rw[sz]
 refine tQ (val:=λ i=>ZFJ) W (λ i v hv=>?_) ?_ (W.frame 0 _ _ ⟨Z2z,U.isList.push _⟩ λ b _ o e=>ZH) (by rw[<- sz];exact ZG) (λ n0=>?_) λ m' t' h' tk M J=>?_
 ·have G:F[i]? = some v:=by simpa using hv
  have li:i<ns.length:=by rw[<- O];exact(FK.mp G).1
  obtain⟨u,hu,ru⟩:=rv.get (i:=i) (x:=V.int ns[i]) (by unfold iV;rw[FP,FJ li];rfl)
  rw[G] at hu
  cases hu
  obtain⟨t,rfl⟩:=ru
  exact⟨t,by rw[HM,FJ li];rfl⟩
 ·intro z
  simp only[FR,FU,Ga] at z
  rcases z with z|z
  ·exact absurd z ZMe
  ·exact absurd z (GV (GY lt))
 ·have e0:ns=[]:=HB Z1
  obtain⟨k,d,j,rfl,x,rx,q⟩:=h0 e0
  exact⟨k,d,j,rfl,λ h' tk J=>⟨x,H,I.kept (L J),rx,q⟩⟩
 ·rw[nl] at M
  exact⟨.int m',H,I.kept (L J),⟨t',rfl⟩,h1 m' (uK M)⟩
inductive v9 (K:PySem.W.Frag) (Q:VK) (vs:List V) (zs:List V) (H2:Hp):Prop
 | mk:∀ p ns y,vs=[Zs]->zs=[y]->SqL K H2 p Z1Z->(ns=[]->Q y H2)->(∀ m,vv ns m->Q Z1M H2)->v9 K Q vs zs H2
def B0 (K:PySem.W.Frag) (ta tk:TA):TE:=λ σ H Q=>ta σ H λ vs H1=>tk σ H1 λ zs H2=>v9 K Q vs zs H2
theorem xK {prog:Program}{w:World}{A:Around}{E:Value->Shared->Prop}{s:Shared}{id:String}{f:Builtin}{us:Zh}{kw:List (Str×Value)}{R:Value->Shared->Prop}(k1:builtinKind id=none) (k2:plainId id=true) (k3:entryFor table id=some f) (F:argsOk id Z9t)
  (j:wpAny ZF A.in1 (f Z9t) (λ q s'=>match q with
   | .done z=>(match (Except.ok z:Result) with | .ok (.ret v)=>R v s' | .ok _=>False | .error e=>E e s')
   | .again z=>z.quiet=true/\codeAny ZF A z (λ r s'=>match r with | .ok (.ret v)=>R v s' | .ok _=>False | .error e=>E e s') s') E s) :
  wpAny ZF A (call Z14 us kw) R E s:=by
 refine IJ (HS k2 k3 ?_)
 simp only[checkBuiltinCall,k1]
 cases J:Manifest.signature? id with
 | none=>exact FN j
 | some sig=>
  have G:Bind.checkArgs id sig Z9t=pure ():=by simpa only[argsOk,J] using F
  show wpAny _ A.in1 (Bind.checkArgs id sig Z9t) _ _ s
  rw[G];exact FN j
theorem wW (M:X.calm=true) (U:Gl X "max") (V:X.mg "max" = none) (Y:bootBuiltins "max" = some (.builtin "max")) (L:PA X [e] ta) (O:PK X [⟨some "default",c,kp⟩] tk) (hs:isStar e=false:=by rfl) (J:X.K=K:=by rfl) :
  PE X (.Call (.Name "max" p) [e] [⟨some "default",c,kp⟩] pos) (B0 K ta tk):=by
 subst J
 intro pins s σ H Q I h
 refine HJ (gJ I U V Y ?_)
 have es:starEach [e] X.env=[(false,Z0Q)]:=rK hs
 have nm:(toString "max" ++ toString ".loop" :ZDR) = "max.loop":=Z4
 refine PyProof.Rows.callWith_kw (kws:=[⟨some "default",c,kp⟩]) (thn (L pos pins s σ H _ I h) λ us s1 z=>?_) (by rw[es];rfl) (by rw[es];rfl)
 obtain⟨vs,H1,j,r1,Z⟩:=z
 refine thn (O pos pins s1 σ H1 _ j Z) λ ks s2 z=>?_
 obtain⟨zs,H2,q,r2,q2⟩:=z
 obtain⟨l,ns,y,rfl,rfl,W,h0,h1⟩:=q2
 obtain⟨u,rfl,ru⟩:=ZL7
 cases ru
 obtain⟨d,rfl,rd⟩:=vals1 r2
 show wpAny Z3 X.A (call (.builtin "max") [Z3G] [("default",d)]) _ _ s2
 refine xK F.kind_max F.plain_max F.entry_max (sS _ _) ?_
 refine FI (m:=Builtin.Builtins.bindParams "max" ["key","default"] 0 ⟨[],[("default",d)]⟩) (G9 (show Builtin.Builtins.bindParams "max" ["key","default"] 0 ⟨[],[("default",d)]⟩=pure [none,some d] from rfl) ?_)
 refine Z6v
 refine FI (GL (xM M q W (kw:=[("default",d)]) (λ z=>⟨_,d,[],rfl,y,rd,h0 z⟩) h1) (λ it s3 w=>?_) λ _ _ z=>z)
 obtain⟨I3,G,z⟩:=w
 subst G
 refine FI (Hr ?_)
 rw[nm]
 exact FN ⟨Z3v,z⟩
end
theorem mv {K:PySem.W.Frag}{a:Addr}{ns:Zc}{p:Int->Bool}{tc:TT}{σ:St}{H1:Hp}{Q:VK}(J:ns.length<=1000) (W:SqL K H1 a Z1Z)
  (Y:∀ j∈ns,∀ acc xs (R:Bool->Hp->Prop),H1 acc=none->R (p j) ZJY->tc (σ++[ZCb]) ZJY R)
  (h:∀ acc,H1 acc=none->Q Zt (upd H1 acc (.lst (iV (ns.filter p))))):je ZAM 1 (eh σ.length) tc (dZ σ.length) σ H1 Q:=by
 have F:∀ l:List Int,(iV l).length=l.length:=λ l=>by unfold iV;rw[FO]
 have G:∀ (l:List Int) (j:Int),iV l++[ZIt]=iV (l++[j]):=λ l j=>by unfold iV;rw[F0];rfl
 refine dU (xs:=ZIX) (by rw[F];exact J) λ acc q=>⟨λ i z zs H2=>zs=iV ((ns.take i).filter p)/\H2=upd H1 acc Z5P/\∃ o,z=σ++[o],Z7O,?_,?_,?_⟩
 ·rintro i z zs H2 hi ⟨rfl,rfl,_⟩
  refine⟨(cG.new q).seq W,?_⟩
  rw[F]
  exact Gd Z9r (by rw[Gu];lia)
 ·rintro i x z zs H2 hi L ⟨rfl,rfl,o,rfl⟩
  unfold iV at L
  rw[FP] at L
  obtain⟨j,O,rfl⟩:=Gs.mp L
  have es:(σ++[o]).set σ.length (some ZIt)=σ++[some ZIt]:=by rw[Z9k,Hs];rfl
  have M:ns.take (i+1)=ns.take i++[j]:=by rw[GQ,O];rfl
  dsimp only[eh]
  rw[es]
  refine Y j (FT O) acc _ _ q ?_
  cases U:p j with
  | true=>
   refine fC ⟨ZIt,Ze,cy,Nx.mk hi ⟨?_,by rw[gv],_,rfl⟩⟩
   rw[M,Hy,HC U,JI,G]
  | false=>
   refine fG ZAL
   rw[M,Hy,HD (by simp[U]),JI,Gx]
 ·rintro z zs H2 ⟨rfl,rfl,o,rfl⟩
  rw[F,Ho]
  exact h acc q
theorem eI:∀ (j:List (Str×NameKind)) (n:Nat) (acc:List (Str×Addr)),cellsFrom n j acc=cellsFrom n j []++acc
 | [],_,_=>rfl
 | (x,k)::r,n,acc=>by
  unfold cellsFrom
  split
  ·rw[eI r (n+1) ((x,n)::acc),eI r (n+1) [(x,n)],Hu];rfl
  ·exact eI r n acc
theorem gx:∀ {j:List (Str×NameKind)}{n:Nat}{acc:List (Str×Addr)}{x:Str}{c:Addr},(x,c)∈cellsFrom n j acc->(x,c)∈acc\/∃ y∈j,y.1=x/\y.2=.cell
 | [],_,_,_,_,h=>Z5z
 | (y,k)::r,n,acc,x,c,h=>by
  unfold cellsFrom at h
  split at h
  ·rename_i G
   rcases gx h with z|⟨F,m,q⟩
   ·rcases FR.mp z with z|z
    ·cases z;exact .inr ⟨_,FZ,rfl,HK.mp G⟩
    ·exact Z9F
   ·exact ZEP
  ·rcases gx h with z|⟨F,m,q⟩
   ·exact Z9F
   ·exact ZEP
theorem jO (f:Str×Value->PUnit->Sem (ForInStep PUnit)) (z:∀ n v u,f (n,v) u=(do storeName env n v;pure (.yield ⟨⟩))) (F:env.scope.kind=.function) :
  ∀ (j:List (Str×Value)) (m:Str->Option Value) (s:Shared) (Q:PUnit->Shared->Prop),s.heap.Ns env.locals m->(∀ x∈j,env.kindOf x.1=some .local) ->
   (∀ h' tk,h'.Ns env.locals (bindL env.kindOf j m)->Heap.SameBut env.locals s.heap h'->Q ⟨⟩ { s with heap:=h',toks:=tk })->wpAny M A (forIn j ⟨⟩ f) Q E s
 | [],m,s,Q,n,_,h=>by rw[List.forIn_nil];exact FN (h s.heap s.toks n (Heap.SameBut.refl ..))
 | (x,v)::r,m,s,Q,n,hl,h=>by
  rw[IH,z]
  have G:env.kindOf x=some .local:=hl (x,v) FZ
  refine FI (FI (wpAny_storeName_local G n (λ h1 U J=>Z5h) (by rw[F];rfl)))
  refine jO f z F r _ _ Q U (λ y O=>hl y (FW _ O)) λ h2 tk V L=>?_
  refine h h2 tk ?_ ⟨L.1.trans J.1,λ b q=>(L.2 b q).trans (J.2 b q)⟩
  unfold bindL
  rw[FX G]
  exact V
theorem p9 {M:Model}{A:Around}{E:Value->Shared->Prop}{s:Shared}{scope:Scope}{cl:List (Str×Addr)}{j:List (Str×Value)}{qual:Str}{z:ZAK}{q:Value}{Q:Env->Shared->Prop}
  (Y:scope.kind=.function) (Z:∀ x∈j,scope.names.lookup x.1=some .local)
  (W:∀ env,env=newEnv scope s.heap.objs.size mainGlobals (cellsFrom (s.heap.objs.size+1) scope.names cl) qual z q none builtinsNs ->
   ∀ h' tk,h'.Ns s.heap.objs.size (bindL env.kindOf j λ _=>none)->(∀ b o,s.heap.get? b=some o->h'.get? b=some o) ->
    (∀ n c,(n,c)∈cellsFrom (s.heap.objs.size+1) scope.names []->h'.IsCell c none/\s.heap.objs.size+1<=c)->(cellsFrom (s.heap.objs.size+1) scope.names []).Pairwise (λ x y=>x.2≠y.2)->Q env { s with heap:=h',toks:=tk }) :
  wpAny M A (newFunctionEnv scope mainGlobals cl j qual z q none builtinsNs) Q E s:=by
 simp only[newFunctionEnv,Option.isSome_none,Ge,Hb]
 refine FI (wpAny_alloc ?_)
 refine FI (wpAny_layCells _ (λ name F G=>by cases J:F == NameKind.cell<;>simp[J]) _ _ _ _ ?_)
 have O:=cellsFrom_ok scope.names (s.heap.push { cls:=.type "frame",data:=.dict #[] }) (s.heap.objs.size+1) [] ⟨λ _ _ L=>(nomatch L),List.Pairwise.nil⟩ (by rw[Heap.size_push];exact Z9)
 rw[Heap.size_push] at O
 rw[show ({ s with heap:=s.heap.push { cls:=.type "frame",data:=.dict #[] } }:Shared).heap.objs.size=s.heap.objs.size+1 from Heap.size_push ..]
 refine FI (jO (env:=newEnv scope s.heap.objs.size mainGlobals (cellsFrom (s.heap.objs.size+1) scope.names cl) qual z q none builtinsNs)
  _ (λ _ _ _=>rfl) Y j (λ _=>none) _ _ ((Heap.Ns.new s.heap (.type "frame")).keeps (pushCells_keeps _ _)) Z λ h' tk n U=>FN (W _ rfl h' tk n (λ b o e=>?_) (λ n c L=>?_) O.apart))
 ·exact(U.2 b Z8x).trans (pushCells_keeps _ _ b o ZH)
 ·obtain⟨z1,V⟩:=O.empty n c L
  exact⟨z1.sameBut U (GV V),V⟩
structure lC (N ps F:List Str) (sc:Scope):Prop where
 kind:sc.kind=.function
 co:sc.isCoroutine=false
 gen:sc.isGenerator=false
 nd:N.Nodup
 pre:N.take ps.length=ps
 post:N.drop (N.length-F.length)=F
 fit:ps.length+F.length<=N.length
 par:∀ x∈ps,sc.names.lookup x=some .local
 fre:∀ y∈sc.names,y.2=.free->y.1∈F
 isf:∀ x∈F,sc.names.lookup x=some .free
 noc:∀ y∈sc.names,y.2=.cell->y.1∉F
structure Clo (H:Hp) (name qual:Str) (st:Stmt) (F:List Str) (f:Addr) (ws:List V):Prop where
 ex:∃ (cl:List (Str×Addr)) (doc pm ctv:Value) (c':Addr) (oc:Obj) (vs:Array Value) (t:Tok),
  H f=some (.frz { cls:=.type "function",data:=.func (PySem.W.fnX name qual (jd st) ZDF Z57 cl .none .none doc pm none Z6X ctv) } ZN3) /\
  H c'=some Z1k/\oc.data=.fields vs/\vs[1]? = some ZDN /\
  (∀ x c,cl.lookup x=some c->x∈F)/\(∀ x y c,cl.lookup x=some c->cl.lookup y=some c->x=y) /\
  ∀ (i:Nat) x v,F[i]? = some x->ws[i]? = some v->∃ c o u,cl.lookup x=some c/\H c=some Z5Q/\o.data=.cell Z9q/\RelV v u
 len:ws.length=F.length
theorem Clo.same {H H':Hp}{name qual:Str}{st:Stmt}{F:ZT}{f:Addr}{z:Z04}(k:∀ b o u,H b=some Z2L->H' b=some Z2L) (c:Clo H name qual st F f z):Clo H' name qual st F f z:=by
 obtain⟨⟨cl,q,pm,j,G,Z,vs,t,J,L,M,O,U,W,Y⟩,l⟩:=c
 exact⟨⟨cl,q,pm,j,G,Z,vs,t,k _ _ _ J,k _ _ _ L,M,O,U,W,λ i x v h1 h2=>let ⟨c,o,u,z1,z2,z3,z4⟩:=Y i x v h1 h2;⟨c,o,u,z1,k _ _ _ z2,z3,z4⟩⟩,l⟩
noncomputable def iY (N:ZT) (vs ws:Z04):St:=vs.map some++List.replicate (N.length-vs.length-ws.length) none++ws.map some
noncomputable def cxC (CX:CXT) (P:Program) (w:World) (K:PySem.W.Frag) (mg:Str->Option Value) (base:Heap) (N F:ZT) (qual:Str) (scope:Scope) (f:Addr) (cd:Value) (cl:List (Str×Addr)) (A:Around) (outer:Z4A) (s:Shared) (H:Hp) (E:XK):Cx where
 prog:=P
 w:=w
 K:=K
 mg:=mg
 base:=base
 A:=A.deeper (PySem.W.envX qual scope s.heap.objs.size f cd (cellsFrom (s.heap.objs.size+1) scope.names cl))
 N:=N
 s₀:=s
 H₀:=H
 env:=PySem.W.envX qual scope s.heap.objs.size f cd (cellsFrom (s.heap.objs.size+1) scope.names cl)
 outer:=outer
 stack:=PySem.W.envX qual scope s.heap.objs.size f cd (cellsFrom (s.heap.objs.size+1) scope.names cl)::outer
 ex:=[]
 calm:=true
 fn:=λ x=>!F.contains x
 pn:=[]
 xe:=λ e s'=>wpAny ZY (A.deeper (PySem.W.envX qual scope s.heap.objs.size f cd (cellsFrom (s.heap.objs.size+1) scope.names cl))) (leaving (PySem.W.envX qual scope s.heap.objs.size f cd (cellsFrom (s.heap.objs.size+1) scope.names cl)) e)
  Z8P Z7r s'
theorem qG (z:vs.length+ws.length<=N.length) (h:(iY N vs ws)[i]? = some Z3h) :
  (i<vs.length/\vs[i]? = some v)\/∃ j,i=N.length-ws.length+j/\ws[j]? = some v:=by
 unfold iY at h
 by_cases h1:i<vs.length
 ·rw[Hu,Gw (by simpa using h1),FP] at h
  cases e:vs[i]? with
  | none=>rw[e] at h;cases h
  | some a=>rw[e] at h;cases h;exact .inl ⟨h1,rfl⟩
 ·by_cases h2:i<N.length-ws.length
  ·rw[Gw (by simp;lia),Gh (by simpa using h1),IM] at h
   split at h<;>cases h
  ·rw[Gh (by simp;lia),FP] at h
   refine .inr ⟨i-(N.length-ws.length),Z1,?_⟩
   have e:i-(List.map some vs++List.replicate (N.length-vs.length-ws.length) none).length=i-(N.length-ws.length):=by simp;lia
   rw[e] at h
   cases q:ws[i-(N.length-ws.length)]? with
   | none=>rw[q] at h;cases h
   | some a=>rw[q] at h;cases h;rfl
theorem qh {CX:CXT}{P:Program}{w:World}{K:PySem.W.Frag}{mg:Str->Option Value}{base:Heap}{N ps F:ZT}{qual:Str}{scope:Scope}{f:Addr}{cd:Value}{cl:List (Str×Addr)}{A:Around}{outer:Z4A}{s:Shared}{H:Hp}{E:XK}{us:Zh}{vs ws:Z04}{h':Heap}{tk:Nat}
  (S:lC N ps F scope) (hd:A.handled=none) (e0:Z9g) (hl:vs.length=ps.length) (r:ZC3) (wl:ws.length=F.length)
  (c1:∀ x c,cl.lookup x=some c->x∈F) (c2:∀ x y c,cl.lookup x=some c->cl.lookup y=some c->x=y)
  (c3:∀ (i:Nat) x v,F[i]? = some x->ws[i]? = some v->∃ c o u,cl.lookup x=some c/\H c=some Z5Q/\o.data=.cell Z9q/\RelV v u)
  (n:h'.Ns s.heap.objs.size (bindL (PySem.W.envX qual scope s.heap.objs.size f cd (cellsFrom (s.heap.objs.size+1) scope.names cl)).kindOf Z7z λ _=>none)) (hk:∀ b o,s.heap.get? b=some o->h'.get? b=some o)
  (o1:∀ n c,(n,c)∈cellsFrom (s.heap.objs.size+1) scope.names []->h'.IsCell c none/\s.heap.objs.size+1<=c) (o2:(cellsFrom (s.heap.objs.size+1) scope.names []).Pairwise (λ x y=>x.2≠y.2)) :
  Inv Z0p [] (iY N vs ws) H { s with heap:=h',toks:=tk }:=by
 have noA:∀ b:Addr,b∉(Z0p).ex:=λ b z=>absurd (show b∈([]:Zq) from z) Z8
 have look:∀ x c,(cellsFrom (s.heap.objs.size+1) scope.names cl).lookup x=some c->(x,c)∈cellsFrom (s.heap.objs.size+1) scope.names []\/cl.lookup x=some c:=λ x c e=>by
  rw[eI,JV] at e
  cases q:(cellsFrom (s.heap.objs.size+1) scope.names []).lookup x with
  | none=>rw[q] at e;exact .inr e
  | some d=>rw[q] at e;cases e;exact .inl (GO q)
 have inF:∀ x c,cl.lookup x=some c->∃ o u,H c=some Z5Q/\o.data=.cell Z9q/\h'.get? c=some o/\c<s.heap.objs.size:=λ x c e=>by
  obtain⟨i,hi,ei⟩:=List.mem_iff_getElem.mp (c1 x c e)
  have hw:i<ws.length:=Z1
  obtain⟨c',o,u,z1,z2,z3,_⟩:=c3 i x ws[i] (by rw[ZCw,ei]) (FJ hw)
  rw[e] at z1;cases z1
  obtain⟨q,_⟩:=ZLT
  exact⟨o,u,z2,z3,hk _ _ q,Z3e⟩
 have nofn:∀ x,x∈F->(Z0p).fn x=false:=λ x hx=>by
  show (!F.contains x)=false
  rw[List.contains_iff_mem.mpr hx];rfl
 refine⟨⟨e0.mod,S.kind,rfl,rfl,Z9,λ y z c h1 h2=>?_,λ y hy=>?_,λ y c hf h=>?_,λ _=>hd,Z9B,ZD3,λ b z=>Z5v,e0.bs,e0.bsz,λ b _ _=>noA b,λ b z=>Z5v,e0.jH,e0.frf⟩,
  rfl,e0.bare,Un.kept hk,⟨_,n,λ i y v h1 h2 h3=>?_⟩,λ y c h=>?_,ZIc,λ y c h=>?_,λ p hp=>absurd (show p∈([]:List (Addr×Obj)) from hp) Z8,ZKM,?_⟩
 ·rcases look y c h1 with a|a<;>rcases look z c h2 with b|b
  ·exact name_of_addr o2 a b
  ·obtain⟨_,_,_,_,_,lt⟩:=inF z c b
   exact absurd (F9 lt (Gd ZCV (ZGF).2)) Z60
  ·obtain⟨_,_,_,_,_,lt⟩:=ZIW
   exact absurd (F9 lt (Gd ZCV (o1 z c b).2)) Z60
  ·exact c2 y z c a b
 ·have hy:scope.names.lookup y=some .cell\/scope.names.lookup y=some .free:=hy
  show ∃ c,(cellsFrom (s.heap.objs.size+1) scope.names cl).lookup y=some c
  rw[eI,JV]
  rcases hy with hy|hy
  ·obtain⟨c,e⟩:=kX (n:=s.heap.objs.size+1) hy
   exact⟨c,by rw[e];rfl⟩
  ·obtain⟨i,hi,ei⟩:=List.mem_iff_getElem.mp (S.fre _ (GO hy) rfl)
   have hw:i<ws.length:=Z1
   obtain⟨c',_,_,z1,_⟩:=c3 i y ws[i] (by rw[ZCw,ei]) (FJ hw)
   cases q:(cellsFrom (s.heap.objs.size+1) scope.names []).lookup y with
   | none=>exact⟨c',by rw[z1];rfl⟩
   | some d=>exact⟨d,rfl⟩
 ·rcases look y c h with a|a
  ·have:=(ZGF).2
   show s.heap.objs.size<=c
   lia
  ·rw[ZGs] at hf;cases hf
 ·have hi:i<N.length:=ZEi
  rcases qG (by have:=S.fit;lia) h2 with ⟨hi,ha⟩|⟨j,rfl,ha⟩
  ·obtain⟨u,hu,rv⟩:=r.get ha
   have hp:ps[i]? = some y:=by
    rw[<- S.pre,IE Z1];exact h1
   have ndP:ps.Nodup:=by rw[<- S.pre];exact ZE2
   have k:=S.par y (FT hp)
   exact⟨u,rv,ZA_⟩
  ·have hF:F[j]? = some y:=by
    rw[<- S.post,List.getElem?_drop,<- wl];exact h1
   obtain⟨c,o,u,z1,z2,z3,z4⟩:=c3 j y v hF ha
   obtain⟨q,_⟩:=ZLT
   refine⟨u,z4,.inr ⟨.inr (S.isf y (FT hF)),c,?_,o,hk _ _ q,z3⟩⟩
   show (cellsFrom (s.heap.objs.size+1) scope.names cl).lookup y=some c
   rw[eI,JV]
   cases q:(cellsFrom (s.heap.objs.size+1) scope.names []).lookup y with
   | none=>rw[z1];rfl
   | some d=>
    rcases gx (GO q) with z|⟨y',m1,rfl,m3⟩
    ·exact ZFR
    ·exact absurd (FT hF) (S.noc _ m1 m3)
 ·rcases look y c h with a|a
  ·exact⟨_,(ZGF).1⟩
  ·obtain⟨o,u,_,z3,z,_⟩:=ZIW
   exact⟨_,o,z,z3⟩
 ·rcases look y c h with a|a
  ·exact .inl (e0.hok.fresh (by have:=(ZGF).2;lia))
  ·obtain⟨o,u,z,_⟩:=ZIW
   exact .inr ⟨ZGs,o,_,z⟩
 ·unfold iY
  show _=N.length
  rw[FQ,FQ,FO,FO,HN]
  have:=S.fit
  lia
structure kJ (P:Program) (w:World) (K:PySem.W.Frag) (mg:Str->Option Value) (base:Heap) (CX:CXT) (k:Nat) (name qual:Str) (st:Stmt) (ps F:List Str) (sp:List V->Sp):Prop where
 len:∀ ws vs H Q E,sp ws vs H Q E->vs.length=ps.length
 run:∀ (f:Addr) (ws:List V) (A:Around) (outer:List Env) (s:Shared) (H:Hp) (us:List Value) (vs:List V) (Q:VK) (E:XK),eV k A->lM P w K mg base A outer s H->Clo H name qual st F f ws->Vals vs us->sp ws vs H Q E ->
  codeAny ZY A ZJt Z58 s
theorem kJ.mono {P:Program}{w:World}{K:PySem.W.Frag}{mg:Str->Option Value}{base:Heap}{CX:CXT}{j k:Nat}{name qual:Str}{st:Stmt}{ps F:ZT}{sp:List V->Sp}(C:kJ P w K mg base CX j name qual st ps F sp) (h:j<=k) :
  kJ P w K mg base CX k name qual st ps F sp:=Z1c
theorem zQ {CX:CXT}{P:Program}{w:World}{K:PySem.W.Frag}{mg:Str->Option Value}{base:Heap}{k:Nat}{name qual:Str}{st:Stmt}{N ps F:ZT}{sp:List V->Sp}(S:lC N ps F Z57)
  (a2:∀ j vs H Q E,sp j vs H Q E->vs.length=ps.length)
  (hb:∀ (cl:List (Str×Addr)) (M pm L:Value) (G:Addr) (us:List Value),us.length=ps.length->bindArgs (PySem.W.fnX name qual (jd st) ZDF Z57 cl .none .none M pm none (.ref G) L) Z4F=pure Z7z)
  (O:∀ (f:Addr) (W:Value) (cl:List (Str×Addr)) (A:Around) (outer:List Env) (s:Shared) (H:Hp) (j vs:List V) (Q:VK) (E:XK),
   eV k (A.deeper (PySem.W.envX qual Z57 s.heap.objs.size f W (cellsFrom (s.heap.objs.size+1) (cI st).names cl)))->j.length=F.length->sp j vs H Q E ->
   ∃ t,PSs (cxC CX P w K mg base N F qual Z57 f W cl A outer s H E).nox ZDF t/\t { nx:=λ _ H'=>ZIw,rt:=Q } ZFu H) :
  kJ P w K mg base CX (k+1) name qual st ps F sp:=by
 refine⟨a2,λ f j A outer s H us vs Q E hr Y c r a1=>?_⟩
 have hl:=a2 _ _ _ _ _ a1
 obtain⟨⟨cl,M,pm,L,G,oc,a3,t,e1,e2,e3,e4,e5,e6,e7⟩,wl⟩:=c
 have a5:s.heap.NoLimit:=Y.mod.nolimit.keeps λ b o e=>(Y.bs b o e).1
 have a4:us.length=ps.length:=by rw[<- r.length];exact hl
 obtain⟨g1,_⟩:=Y.hok f _ e1
 obtain⟨g2,_⟩:=Y.hok G _ e2
 refine JK hr.depth g1 rfl S.co S.gen rfl ⟨G,oc,a3,t,rfl,g2,e3,e4⟩ ?_
 rw[hb cl M pm L G us a4]
 refine Z5h
 refine p9 S.kind (λ y hy=>S.par y.1 (Jf hy).1) λ a6 he h' tk n hk o1 o2=>?_
 subst he
 refine⟨a5.keeps hk,ZA8⟩
 obtain⟨t,ht,hq⟩:=O f (.ref G) cl A outer s H j vs Q E (hr.deeper _) wl a1
 have I:Inv Z2i [] ZFu H { s with heap:=h',toks:=tk }:=qh S hr.hd Y hl r wl e5 e6 e7 n hk o1 o2
 refine GL (ht.nox [] _ ZFu H _ I hq) (λ fl s' U=>?_) λ e s' U=>U
 have Z:∀ {z:St} {H':Hp} {v:V} {u:Value},Inv Z2i [] z H' s'->RelV v u->Q v H'->CE outer P w H s Q u s':=
  λ{z H' v u} J rv q=>Z67
 cases fl with
 | ret u=>
  obtain⟨v,z,H',J,rv,q⟩:=U
  exact Z J rv q
 | next=>
  obtain⟨z,H',J,q⟩:=U
  exact Z (v:=V.non) (u:=Value.none) J rfl q
 | brk=>
  obtain⟨_,_,_,q⟩:=U
  exact Z3w
 | cont=>
  obtain⟨_,_,_,q⟩:=U
  exact Z3w
def iK (H H':Hp):Prop:=∀ b o u,H b=some Z2L->H' b=some Z2L
theorem iK.refl (H:Hp):iK H H:=λ _ _ _ h=>h
theorem iK.trans (a:iK H H1) (b:iK H1 H2):iK H H2:=λ c o u h=>b c o u (a c o u h)
theorem uy {X:Cx}{CX:CXT}{k:Nat}{name qual:Str}{st:Stmt}{ps F:ZT}{sp:List V->Sp}{E:XK}{pos:Pos}{e:Expr}{es:Z3D}{t:TA}{pins:List (Addr×Obj)}{σ:St}{H1:Hp}{Q:VK}{f:Addr}{U:Z04}{L:Shared}
  (C:Z42) (hr:Z9i) (hx:Z2G) (ha:PA X (e::es) t) (W:Inv X pins σ H1 L) (c:Clo H1 name qual st F f U) (h1:t σ H1 λ vs H2=>iK H1 H2/\sp U vs H2 Q E)
  (he:starEach (e::es) X.env=(false,Z0Q)::starEach es X.env) (O:(Z07).any (·.1)=false) :
  wpAny Z3 X.A (callWith pos Z06 [] (backTo pos (starEach (e::es) X.env)) []) Z09 X.xe L:=by
 obtain⟨cl,a2,pm,a1,c',oc,vs,tq,Y,_⟩:=id c.ex
 have G:∀ {o:Obj} {h:Heap},h.get? f=some o->PySem.W.Frag.In [(f,o)] h:=λ{o h} z a o' q=>by
  rw[Hx] at q
  cases M:a == f with
  | true=>rw[M] at q;cases q;rw[HK.mp M];exact z
  | false=>rw[M] at q;cases q
 obtain⟨g1,_⟩:=W.hok f _ Y
 refine Jj (h₀:=L.heap) (G g1) (by simp[PySem.W.keepIn]) (thn (ha pos pins L σ H1 _ W h1) λ us s2 z=>?_) he O
 obtain⟨vs,H2,J,r,Z,q⟩:=z
 obtain⟨g2,_⟩:=J.hok f _ (Z _ _ _ Y)
 refine⟨G g2,?_⟩
 refine IJ (Ip (C.run f U X.A X.stack s2 H2 us vs Q E hr J.zw (c.same Z) r q) λ r s' j=>?_)
 cases r with
 | error e=>exact hx pins σ H2 s2 e s' J j
 | ok fl=>
  cases fl with
  | ret u=>exact J.after j
  | next=>exact Z9A
  | brk=>exact Z9A
  | cont=>exact Z9A
theorem mX {sc:Scope}{env:Env}(h:∀ y∈sc.names,y.2=.free->∃ c,env.cells.lookup y.1=some c) :
  ∃ cl,closureFor sc env=pure cl/\∀ x c,cl.lookup x=some c->∃ y∈sc.names,y.1=x/\y.2=.free:=by
 have go:∀ (names:List (Str×NameKind)) (cs:List (Str×Addr)),(∀ y∈names,y.2=.free->∃ c,env.cells.lookup y.1=some c) ->
   ∃ cl,(forIn names cs λ(x:Str×NameKind) (r:List (Str×Addr))=>(if (x.2 == NameKind.free)=true then do let c <- cellOf env x.1;pure (ForInStep.yield ((x.1,c)::r)) else pure (Z5M):Sem (ForInStep (List (Str×Addr)))))=pure cl /\
    ∀ x c,cl.lookup x=some c->(∃ c',cs.lookup x=some c')\/∃ y∈names,y.1=x/\y.2=.free:=by
  intro names
  induction names with
  | nil=>intro cs _;exact⟨cs,rfl,λ x c e=>.inl ⟨c,e⟩⟩
  | cons y r ih=>
   intro cs hn
   by_cases hy:y.2=.free
   ·obtain⟨c,hc⟩:=hn y FZ hy
    obtain⟨cl,e,h1⟩:=ih ((y.1,c)::cs) Z2X
    refine ZB0
    ·rw[IH]
     have e1:(y.2 == NameKind.free)=true:=by rw[hy];rfl
     have e2:cellOf env y.1=pure c:=by unfold cellOf;rw[hc]
     rw[e1,e2]
     exact e
    ·rcases h1 x c' e' with ⟨c2,z⟩|⟨z,m,q⟩
     ·rw[Hx] at z
      cases hb:x == y.1 with
      | true=>exact .inr ⟨y,FZ,(HK.mp hb).symm,hy⟩
      | false=>rw[hb] at z;exact .inl ⟨c2,z⟩
     ·exact ZEO
   ·obtain⟨cl,e,h1⟩:=ih cs Z2X
    refine ZB0
    ·rw[IH]
     have e1:(y.2 == NameKind.free)=false:=by simpa using hy
     rw[e1]
     exact e
    ·rcases h1 x c' e' with z|⟨z,m,q⟩
     ·exact Z9F
     ·exact ZEO
 obtain⟨cl,e,h1⟩:=go sc.names [] h
 refine⟨cl,?_,λ x c e=>(h1 x c e).elim (λ⟨_,z⟩=>by simp at z) id⟩
 have e2:closureFor sc env=((forIn sc.names [] λ(x:Str×NameKind) (r:List (Str×Addr))=>(if (x.2 == NameKind.free)=true then do let c <- cellOf env x.1;pure (ForInStep.yield ((x.1,c)::r)) else pure (Z5M):Sem (ForInStep (List (Str×Addr))))) >>= λ s=>pure s):=rfl
 rw[e2,e]
 rfl
def lL (H:Hp) (P:Addr) (pos:Pos) (qual:Str):Prop:=
 H P=some (.tbl #[])\/∃ c' oc vs t,H P=some (.tbl #[Z6I,Z77,Z6X])/\H c'=some Z1k/\oc.data=.fields vs/\vs[1]? = some ZDN
theorem lL.get (t:ZIT):∃ ps,H P=some ZJp:=by
 rcases t with t|⟨_,_,_,_,t,_⟩<;>exact⟨_,t⟩
theorem lL.same (k:iK H H') (e:H' P=H P) (t:ZIT):lL H' P pos qual:=by
 rcases t with t|⟨j,F,vs,tk,t,z,q⟩
 ·exact .inl (e.trans t)
 ·exact .inr ⟨j,F,vs,tk,e.trans t,k _ _ _ z,q⟩
def nM (P:Addr) (H H':Hp):Prop:=∀ b o,b≠P->H b=some o->H' b=some o
structure Tab (mg:Str->Option Value) (base:Heap) (c P:Addr):Prop where
 code:PySem.W.CodeHd base c P
 blt:base.BuiltinsAt mg P
 ne:mainGlobals≠P
section
variable {P:Program}{w:World}{H H1:Hp}{h h':Heap}{T:Addr}{ps more:Array Value}{fs:List Addr}
theorem grown (J:H T=some ZJp) (U:Z0c) (a:nM T H H1) (b:∀ x,x≠T->H x=none->x<h.objs.size->H1 x=none) (c:∀ x o,x≠T->h.get? x=some o->h'.get? x=some o)
  (d:H1 T=some (.tbl (ps++more))) (O:h'.get? T=some { cls:=.none,data:=.fields (ps++more) }) (e:∀ x o,H x=none->H1 x=some o->dm P w H1 h' x o):Un fs [] H H1 h h'/\HOk P w H1 h':=by
 have G:∀ x,H x=none->x≠T:=λ x n z=>by rw[z,J] at n;cases n
 have j:∀ x o,H x=some o->(∀ q,o≠.tbl q)->x≠T:=λ x o n q z=>by rw[z,J] at n;cases n;exact q _ rfl
 refine⟨⟨λ x o q n _ _=>ZIl,λ x o q n _ _=>⟨o.slots,ZIl⟩,λ x o q n _=>b x (G x n) n Z3e,λ x o q _=>?_,λ x xs q=>a x _ (j x _ q λ _=>Ze) q,λ x o u q=>a x _ (j x _ q λ _=>ZFQ) q,λ x V q=>?_⟩,λ x o q=>?_⟩
 ·by_cases F:x=T
  ·subst F;exact⟨_,O⟩
  ·exact⟨o,c x o F q⟩
 ·by_cases F:x=T
  ·subst F;rw[J] at q;cases q;exact⟨more,d⟩
  ·exact⟨#[],by rw[a x _ F q];simp⟩
 ·by_cases F:x=T
  ·subst F
   rw[d] at q;cases q
   exact O
  ·cases L:H x with
   | none=>exact e x o L q
   | some o'=>
    have z:=a x o' F L
    rw[q] at z;cases z
    refine(U x o L).lI (λ y u M r=>c y u ?_ r) (λ y r=>a y _ (j y _ r λ _=>Ze) r) λ y xs r=>a y _ (j y _ r λ _=>ZFQ) r
    rcases M with rfl|M
    ·exact F
    ·exact j y _ M λ _=>Ze
end
def PM (X:Cx) (body:Z3r) (t:TE):Prop:=
 ∀ (s:Shared) (σ:St) (H:Hp) (Q:VK),Inv X [] σ H s->t σ H Q->wpAny Z3 X.A (execs body X.env)
  (λ fl s'=>∃ u v H',fl=.ret u/\s'.os=X.s₀.os/\AllBare s'.gens/\Un X.fs X.ex X.H₀ H' X.s₀.heap s'.heap/\HOk X.prog X.w H' s'.heap/\RelV v u/\Q v H') X.xe s
def FA (t:TS) (u:TE):TE:=λ σ H Q=>t { nx:=λ σ' H'=>u σ' H' Q,rt:=λ _ _=>False } σ H
theorem nC {X:Cx}{st:Stmt}{rest:Z3r}{t:TS}{u:TE}(h1:ZIx) (h2:PM X rest u):PM X (st::rest) (FA t u):=by
 intro s σ H Q I h
 refine IZ (thn (h1 [] s σ H _ I h) λ f F q=>?_)
 cases f with
 | next=>
  obtain⟨j,H',z,q⟩:=q
  exact h2 F j H' Q z q
 | ret v=>obtain⟨_,_,_,_,_,q⟩:=q;exact Z3w
 | brk=>obtain⟨_,_,_,q⟩:=q;exact Z3w
 | cont=>obtain⟨_,_,_,q⟩:=q;exact Z3w
def tMk (T:Addr) (name qual:Str) (st:Stmt) (pos:Pos) (F:ZT) (ix:ZGV):TE:=λ σ H Q=>lL H T pos qual/\∃ ws,ws.length=F.length/\(∀ (j i:Nat),ix[j]? = some i->∃ v,σ[i]? = some Z3h/\ws[j]? = some v) /\
 ∀ f H',H f=none->nM T H H'->lL H' T pos qual->Clo H' name qual st F f ws->Q Z06 H'
theorem zC {X:Cx}{T c:Addr}{name qual:Str}{args:Arguments}{body:Z3r}{scope:Scope}{pos p2 pos2:Pos}{F:ZT}{ix:ZGV}{i:Nat}(Tb:ZFV) (hcd:X.env.code=.ref c) (hN:X.N.Nodup) (hi:X.N[i]? = some name) (hloc:X.env.scope.names.lookup name=some .local)
  (hfn:∀ x,X.fn x=true) (hix:∀ (j:Nat) x,F[j]? = some x->∃ i',ix[j]? = some i'/\X.N[i']? = some x) (hni:∀ i'∈ix,i'≠i) (hF:∀ x∈F,X.env.scope.names.lookup x=some .cell)
  (hfr:∀ y∈scope.names,y.2=.free->y.1∈F) (hfr2:∀ x∈F,scope.names.lookup x=some .free)
  (hdf:defaultsOf args X.env=([],[]):=by rfl) (han:annTrees args none X.env=[]:=by rfl) (hq:qualnameIn X.env name name=qual:=by rfl)
  (hdb:(name == ("__debug__" :ZBp))=false:=by decide) (hcdn:(name == ("__classdict__" :ZBp))=false:=by decide) :
  PM X [Z3f,Z2e] (tMk T name qual Z3f pos F ix):=by
 intro s σ H Q I h
 obtain⟨tab,ws,wl,hw,k⟩:=h
 have has:∀ y∈scope.names,y.2=.free->∃ c,X.env.cells.lookup y.1=some c:=λ y hy hf=>I.ok.has y.1 (.inl (hF _ (hfr y hy hf)))
 obtain⟨cl,ecl,hcl,hfc⟩:=gP has
 obtain⟨cl2,ecl2,hkey⟩:=mX has
 have:cl=cl2:=by rw[ecl] at ecl2;injection ecl2
 subst this
 have fin:∀ (f c':Addr) (oc:Obj) (cvs:Array Value) (tq:Tok) (doc pm ctv:Value) (H1:Hp) (h1:Heap) (tk:Nat),H f=none->Inv X [] σ H1 { s with heap:=h1,toks:=tk }->nM T H H1->lL H1 T pos qual ->
   H1 f=some (.frz { cls:=.type "function",data:=.func (PySem.W.fnX name qual args body scope cl .none .none doc pm none Z6X ctv) } ZN3)->H1 c'=some Z1k->oc.data=.fields cvs->cvs[1]? = some (.str qual tq) ->
   wpAny Z3 X.A (storeName X.env name Z06) (λ _ s2=>wpAny Z3 X.A (execs [Z2e] X.env)
    (λ fl s'=>∃ u v H',fl=.ret u/\s'.os=X.s₀.os/\AllBare s'.gens/\Un X.fs X.ex X.H₀ H' X.s₀.heap s'.heap/\HOk X.prog X.w H' s'.heap/\RelV v u/\Q v H') X.xe s2) X.xe { s with heap:=h1,toks:=tk }:=by
  intro f c' oc cvs tq doc pm ctv H1 h1 tk fresh I1 sT tT ef ec' e3 e4
  refine kZ (v:=Z7H) (u:=Z7H) I1 hN hi (.inl hloc) rfl (λ s2 I2=>?_) (.inr hloc)
  refine IZ (wpAny_Return_some (thn (uz (X:=X) (pos:=p2) hi (.inl hloc) hdb hcdn [] s2 _ H1 (λ v H'=>v=.ref f/\H'=H1) I2 ⟨Z7H,F8 (by rw[I1.len];exact(ZM0).1),rfl,rfl⟩) λ u s3 z=>?_))
  obtain⟨v,H',I3,rv,ev,eH⟩:=z
  subst ev;subst eH
  obtain rfl:u=Value.ref f:=rv
  have cnone:∀ x c,X.env.cells.lookup x=some c->H' c=none:=λ x c e=>(I3.freeC x c e).elim id λ z=>absurd ((hfn x).symm.trans z.1) Z4
  have cab:∀ x c,X.env.cells.lookup x=some c->X.s₀.heap.objs.size<=c:=λ x c e=>I3.ok.cab x c (hfn x) e
  classical
  let H2:Hp:=λ b=>if (∃ x∈F,X.env.cells.lookup x=some b) then (ZBK).map (λ o=>.frz o (.own b)) else H' b
  have old:∀ b o,H' b=some o->H2 b=some o:=λ b o e=>by
   show (if _ then _ else _)=_
   rw[FV]
   ·exact e
   ·rintro⟨x,_,z⟩;rw[cnone x b z] at e;cases e
  have oldn:∀ b,b<X.s₀.heap.objs.size->H2 b=H' b:=λ b lt=>by
   show (if _ then _ else _)=_
   rw[FV]
   rintro⟨x,_,z⟩;exact absurd (F9 lt (cab x b z)) Z60
  refine⟨Z7H,Z7H,H2,rfl,I3.os,I3.bare,⟨I3.base.keep,I3.base.slot,λ b o q n hx=>by rw[oldn b Z3e];exact I3.base.free b o q n hx,I3.base.there,λ b xs q=>old _ _ (I3.base.tups b xs q),λ b o u q=>old _ _ (I3.base.frzs b o u q),λ b ps q=>let ⟨m,z⟩:=I3.base.tbls b ps q;⟨m,ZIO⟩⟩,?_,rfl,?_⟩
  ·intro b o q
   by_cases hb:∃ x∈F,X.env.cells.lookup x=some b
   ·have q':(if (∃ x∈F,X.env.cells.lookup x=some b) then (ZBK).map ZBc else H' b)=some o:=q
    rw[FX hb] at q'
    obtain⟨ob,z,rfl⟩:=Gs.mp q'
    exact⟨z,ob,z⟩
   ·have q':(if (∃ x∈F,X.env.cells.lookup x=some b) then (ZBK).map ZBc else H' b)=some o:=q
    rw[FV hb] at q'
    exact(I3.hok b o q').lI (λ _ _ _ r=>r) (λ c r=>old _ _ r) λ c xs r=>old _ _ r
  ·refine k f H2 fresh (λ b o hb e=>old _ _ (sT b o hb e)) ?_ ⟨⟨cl,doc,pm,ctv,c',oc,cvs,tq,old _ _ ef,old _ _ ec',e3,e4,?_,?_,?_⟩,wl⟩
   ·rcases tT with z|⟨c2,oc2,v2,t2,z,z2,r⟩
    ·exact .inl ZIO
    ·exact .inr ⟨c2,oc2,v2,t2,ZIO,old _ _ z2,r⟩
   ·intro x c e
    obtain⟨y,m,rfl,hy⟩:=hkey x c e
    exact hfr y m hy
   ·intro x y c e1 e2
    exact I3.ok.inj x y c (hcl x c e1) (hcl y c e2)
   ·intro j x v ej ewj
    obtain⟨i',ei,eN⟩:=hix j x ej
    obtain⟨v',es,ew⟩:=hw j i' ei
    rw[ewj] at ew;cases ew
    have xF:x∈F:=FT ej
    obtain⟨m,hn,hl⟩:=I3.loc
    obtain⟨u,ru,lo⟩:=hl i' x v eN (by rw[Gk (Ne.symm (hni i' (FT ei)))];exact es) (.inr (.inl (hF x xF)))
    rcases lo with ⟨z,_⟩|⟨_,c,ec,o,ho,hd⟩
    ·have z':X.env.scope.names.lookup x=some .local:=z
     rw[hF x xF] at z';cases z'
    ·obtain⟨c2,ec2⟩:=hfc _ (GO (hfr2 x xF)) rfl
     have:=hcl x c2 ec2
     rw[ec] at this;cases this
     refine⟨c,o,u,ec2,?_,hd,ru⟩
     show (if (∃ x∈F,X.env.cells.lookup x=some c) then (s3.heap.get? c).map (λ o=>HO.frz o (.own c)) else H' c)=_
     rw[FX ⟨x,xF,ec⟩,ho];rfl
 have G:=Z3t
 have C:=Tb.code.keeps I.bk
 have B:=Tb.blt.keeps I.bk
 refine IZ ?_
 rw[exec_def,hdf,han,hq]
 refine FI (IA Z8i)
 refine FI (FN (FI (Gp (FN (Gp Z6v)))))
 rcases tab with tab|⟨c',oc,cvs,tq,tab,ec',e3,e4⟩
 ·have hP:s.heap.get? T=some (PySem.W.tabObj #[]):=ZLp
  refine PySem.W.makeFunction_K ecl I.ok.glob G hcd C hP trivial rfl Tb.ne B λ c' ctv doc h' tk hx hge hlt hrec htb=>?_
  obtain⟨c2,oc,cvs,tq,e2,g2,e3,e4⟩:=hrec
  cases e2
  refine Z8O
  let fo:Obj:={ cls:=.type "function",data:=.func (PySem.W.fnX name qual args body scope cl .none .none doc ((X.mg "__name__").getD .none) none Z6X ctv) }
  let H1:Hp:=upd (upd (upd H T (.tbl (#[] ++ #[Z6I,Z77,Z6X]))) c' Z1k) h'.objs.size Z1n
  have Tlt:T<s.heap.objs.size:=I.hok.lt tab
  have cT:c'≠T:=GV (F9 Tlt hge)
  have fc:h'.objs.size≠c':=GV hlt
  have fT:h'.objs.size≠T:=GV (J9 (F9 Tlt hge) hlt)
  have n1:H c'=none:=ZJ8
  have n2:H h'.objs.size=none:=I.hok.fresh (Gd hge (Ic hlt))
  have H1f:H1 h'.objs.size=some Z1n:=cy
  have H1c:H1 c'=some Z1k:=by show upd _ _ _ _=_;rw[cz (Ne.symm fc),cy]
  have H1T:H1 T=some (.tbl (#[] ++ #[Z6I,Z77,Z6X])):=by show upd _ _ _ _=_;rw[cz (Ne.symm fT),cz (Ne.symm cT),cy]
  have H1o:∀ b,b≠T->b≠c'->b≠h'.objs.size->H1 b=H b:=λ b x1 x2 x3=>by show upd _ _ _ _=_;rw[cz x3,cz x2,cz x1]
  have sT:nM T H H1:=λ b o hb e=>by
   rw[H1o b hb (λ z=>by rw[z,n1] at e;cases e) (λ z=>by rw[z,n2] at e;cases e)];exact e
  have gf:(Z6g).get? h'.objs.size=some fo:=ZG
  have gr:=grown (fs:=X.fs) (P:=X.prog) (w:=X.w) (h':=Z6g) tab I.hok sT (λ b hb n lt=>by rw[H1o b hb (F1 (F9 lt hge)) (F1 (J9 (F9 lt hge) hlt))];exact n)
   (λ b o hb e=>Heap.get?_push_of_some _ (hx b o hb e)) H1T (Heap.get?_push_of_some _ htb) (λ b o n e=>by
    by_cases x3:b=h'.objs.size
    ·subst x3;rw[H1f] at e;cases e;exact⟨gf,_,gf⟩
    ·by_cases x2:b=c'
     ·subst x2;rw[H1c] at e;cases e;exact⟨ZAO,_,ZAO⟩
     ·have x1:b≠T:=λ z=>by rw[z,tab] at n;cases n
      rw[H1o b x1 x2 x3,n] at e;cases e)
  exact thn (fin h'.objs.size c' oc cvs tq doc _ ctv H1 Z6g tk n2 (I.un gr.1 gr.2) sT (.inr ⟨c',oc,cvs,tq,by rw[H1T];rfl,H1c,e3,e4⟩) H1f H1c e3 e4) λ _ s2 z=>FN z
 ·have hP:s.heap.get? T=some (PySem.W.tabObj #[Z6I,Z77,Z6X]):=ZLp
  refine PySem.W.makeFunction_hit (cv:=Z6X) ecl I.ok.glob G hcd C hP (by simp[TriplesOk,rawInt]) (by simp[codeAmong,rawInt]) B λ ctv doc h' tk hx hge=>?_
  refine Z8O
  let fo:Obj:={ cls:=.type "function",data:=.func (PySem.W.fnX name qual args body scope cl .none .none doc ((X.mg "__name__").getD .none) none Z6X ctv) }
  let H1:Hp:=upd H h'.objs.size Z1n
  have n2:H h'.objs.size=none:=ZJ8
  have H1f:H1 h'.objs.size=some Z1n:=cy
  have all:∀ b o,H b=some o->H1 b=some o:=λ b o e=>by show upd _ _ _ _=_;rw[cz (cB e n2)];exact e
  have gf:(Z6g).get? h'.objs.size=some fo:=ZG
  have I1:Inv X [] σ H1 { s with heap:=Z6g,toks:=tk }:=I.laid (λ b o e=>Heap.get?_push_of_some _ (hx b o e)) hge ⟨gf,_,gf⟩
  exact thn (fin h'.objs.size c' oc cvs tq doc _ ctv H1 Z6g tk n2 I1 (λ b o _ e=>all b o e) (.inr ⟨c',oc,cvs,tq,all _ _ tab,all _ _ ec',e3,e4⟩) H1f (all _ _ ec') e3 e4) λ _ s2 z=>FN z
theorem Dy {CX:CXT}{P:Program}{w:World}{K:PySem.W.Frag}{mg:Str->Option Value}{base:Heap}{k:Nat}{f:Addr}{name qual:Str}{j:Arguments}{F:Z3r}{scope:Scope}{dV kV L pm z ct oc:Value}{an od:ZAK}
  {a2:Z48}{N ps:ZT}{sp:Sp}(lk:K.lookup f=some ⟨oc,od,.func Z4C,a2⟩) (W:PySem.W.codeIn K z qual=true) (S:ZLX)
  (U:∀ vs H Q E,sp vs H Q E->vs.length=ps.length)
  (G:∀ (A:Around) (outer:List Env) (s:Shared) (H:Hp) (vs:List V) (Q:VK) (E:XK),eV k (A.deeper (envOfC qual scope s.heap.objs.size f z))->sp vs H Q E ->
   ∃ t,PM (Z4e).nox F t/\t Z2B H Q) :
  dk P w K mg base CX (k+1) f Z4C ps sp:=by
 refine⟨U,λ A outer s H a3 us vs Q E Y M hb r O=>?_⟩
 have hl:=U _ _ _ _ O
 have KX:Z2d:=Z6A
 have a1:s.heap.NoLimit:=Z5R
 have J:∀ y∈ps.zip us,scope.names.lookup y.1=some .local\/(scope.names.lookup y.1=some .cell/\((cellsFrom (s.heap.objs.size+1) scope.names []).lookup y.1).isSome=true):=λ⟨n,v⟩ hy=>by
  rcases S.par n (Jf hy).1 with q|q
  ·exact ZJT
  ·exact Z9E
 refine Z1i
 refine wpAny_newFunctionEnv_cells S.kind J λ a4 he s1 x=>?_
 subst he
 refine⟨a1.keeps x.toInCall.keep,ZA8⟩
 obtain⟨t,ht,hq⟩:=G A outer s H vs Q E (Y.deeper _) O
 have I:Inv Z4e [] Z2B H s1:=ZGG
 refine GL (ht s1 Z2B H Q (I.lA _) hq) (λ fl s' Z=>?_) λ e s' Z=>False.elim Z
 obtain⟨u,v,H',rfl,o1,o2,o3,o4,o5,o6⟩:=Z
 exact⟨v,H',o1,o2,o3,o4,o5,o6⟩
theorem Fun.okM {CX:CXT}{P:Program}{w:World}{K:PySem.W.Frag}{mg:Str->Option Value}{base:Heap}{x qual:Str}{st:Stmt}{f c:Addr}{fd:FuncData}{N ps:ZT}{k:Nat}{sp:Sp}(F:ZEy) (L:fd.code=.ref c) (S:cM N ps Z57) (G:∀ vs H Q E,sp vs H Q E->vs.length=ps.length)
  (j:∀ (A:Around) (outer:List Env) (s:Shared) (H:Hp) (vs:List V) (Q:VK) (E:XK),eV k (A.deeper (envOfC qual Z57 s.heap.objs.size f ZEL))->sp vs H Q E ->
   ∃ t,PM (mG CX P w K mg base N qual Z57 f ZEL A outer s H E).nox ZDF t/\t Z2B H Q):dk P w K mg base CX (k+1) f fd ps sp:=by
 obtain⟨Z,od,Y,J,pm,U,q,W,O,rfl,M,z⟩:=F.ex
 obtain rfl:q=.ref c:=L
 exact Dy M z S G j
theorem zW {F N:ZT}{ix:ZGV}(h:ix.map (λ i=>N[i]?)=F.map some):∀ (j:Nat) x,F[j]? = some x->∃ G,ix[j]? = some G/\N[G]? = some x:=λ j x e=>by
 have z:(F.map some)[j]? = some (some x):=by rw[FP,e];rfl
 rw[<- h,FP] at z
 cases q:ix[j]? with
 | none=>rw[q] at z;cases z
 | some i=>rw[q] at z;exact⟨i,rfl,by simpa using z⟩
noncomputable def inDef (s:Stmt) (j:Nat):Stmt:=(fP s).getD j Z4Y
noncomputable def posOf (s:Stmt):Pos:=match s with
 | .FunctionDef _ _ _ _ _ _ _ _ _ p=>p
 | _=>⟨0,0,0,0⟩
theorem xa {X:Cx}{T c:Addr}{name qual:Str}(st:Stmt) {args:Arguments}{body:Z3r}{scope:Scope}{pos p2 pos2:Pos}{F:ZT}{ix:ZGV}{i:Nat}(hst:st=.FunctionDef name args body [] none [] scope none name pos) (Tb:ZFV) (hcd:X.env.code=.ref c) (hN:X.N.Nodup) (hi:X.N[i]? = some name) (hloc:X.env.scope.names.lookup name=some .local)
  (hfn:∀ x,X.fn x=true) (hix:∀ (j:Nat) x,F[j]? = some x->∃ i',ix[j]? = some i'/\X.N[i']? = some x) (hni:∀ i'∈ix,i'≠i) (hF:∀ x∈F,X.env.scope.names.lookup x=some .cell)
  (hfr:∀ y∈(cI st).names,y.2=.free->y.1∈F) (hfr2:∀ x∈F,(cI st).names.lookup x=some .free)
  (hdf:defaultsOf args X.env=([],[]):=by rfl) (han:annTrees args none X.env=[]:=by rfl) (hq:qualnameIn X.env name name=qual:=by rfl)
  (hdb:(name == ("__debug__" :ZBp))=false:=by decide) (hcdn:(name == ("__classdict__" :ZBp))=false:=by decide) :
  PM X [st,Z2e] (tMk T name qual st (posOf st) F ix):=by
 subst hst
 exact zC Tb hcd hN hi hloc hfn hix hni hF hfr hfr2 hdf han hq hdb hcdn
theorem sD {P:Program}{w:World}{K:PySem.W.Frag}{mg mb:Str->Option Value}{CX:CXT}{k:Nat}{fa a:Addr}{fd:FuncData}{x:Str}{sp:Sp}{j:Shared}{vs:Zh}{ns:Zc}{tabs:List (Addr×Addr)}
  (KX:K.In j.heap) (W:j.heap.Ns mainGlobals mg) (J:j.heap.Ns builtinsNs mb) (ai:∀ x:Str,x ≠ "__name__" -> mb x=bootBuiltins x) (a8:j.heap.NoLimit) (hg:j.gens = #[])
  (aj:∃ bm ob,mg "__builtins__" = some (.ref bm)/\bm≠builtinsNs/\j.heap.get? bm=some ob/\ob.cls=.type "module" /\ ob.dict=some builtinsNs/\ob.data=.plain)
  (hT:PySem.W.TabsAt tabs j.heap) (ag:∀ q∈tabs,K.lookup q.2=none)
  (ha:j.heap.get? a=some { cls:=.type "list",data:=Z44}) (hi:IntsAre vs ns) (hl:ns.length<=sizeLine) (hr:eV k callerA)
  (F:∀ base:Heap,K.In base->base.Ns mainGlobals mg->(∀ q∈tabs,ZFU)->dk P w K mg base CX k fa fd [x] sp) (a4:∀ (s:Shared) (u:Value),BindsTo s fd ⟨[u],[]⟩ [(x,u)])
  (ak:∀ H:Hp,(∀ q∈tabs,H q.2=some (.tbl #[]))->SqL K H a (Z4p)->sp ZKR H (λ v _=>v=.bl true) λ _ _ _=>False)
  (ae:∀ H e s',CX [] H j ZHH e s'->False) :
  codeAny ZY callerA ZEk (λ r s'=>r=.ok ZHW/\OldK j.heap s'.heap/\s'.os=j.os/\AllBare s'.gens) j:=by
 have rv:=lR hi
 have aa:=hi.length
 have aT:a∉tabs.map (·.2):=λ m=>by
  obtain⟨q,M,e⟩:=F2.mp m
  have:=ZHK
  rw[e,ha] at this;cases this
 have Z:∀ H:Hp,(∀ b,H b=none\/(∃ o xs,H b=some (.frz o ZQ))\/(b∈tabs.map (·.2)/\H b=some (.tbl #[])))->(∀ q∈tabs,H q.2=some (.tbl #[]))->SqL K H a (Z4p)->HOk P w H j.heap->(∀ b,H b≠none->b=a\/b∈tabs.map (·.2))->(H a≠none->K.lookup a=none) ->
   codeAny ZY callerA ZEk (λ r s'=>r=.ok ZHW/\OldK j.heap s'.heap/\s'.os=j.os/\AllBare s'.gens) j:=by
  intro H hO af hS a9 hA hK
  have G:∀ {b:Addr} {o:Obj},j.heap.get? b=some o->H b=none->(Z5_).get? b=some o:=λ e n=>wj e n
  have ad:∀ {b:Addr} {o:Obj},j.heap.get? b=some o->H b≠none->o.cls=.type "list" \/ o=PySem.W.tabObj #[]:=λ{b o} e n=>by
   rcases hA b n with z|z
   ·subst z;rw[ha] at e;cases e;exact Z0N
   ·obtain⟨q,M,rfl⟩:=ZCy
    have:=ZHK
    rw[e] at this;cases this;exact Z5k
  have am:∀ {b:Addr} {o:Obj},j.heap.get? b=some o->o.cls≠.type "list" -> (∀ q,o.data≠.fields q)->H b=none:=λ{b o} e d1 d2=>by
   cases q:H b with
   | none=>rfl
   | some u=>
    rcases ad e (by rw[q];simp) with z|z
    ·exact absurd z d1
    ·rw[z] at d2;exact absurd rfl (d2 #[])
  have an:∀ {b:Addr} {o:Obj} {es:Array DictEntry} {ep:Nat},j.heap.get? b=some o->o.data=.dict es ep->H b=none:=λ{b o es ep} e d=>by
   cases q:H b with
   | none=>rfl
   | some u=>
    rcases hA b (by rw[q];simp) with z|z
    ·subst z;rw[ha] at e;cases e
     have d':Data.seq vs.toArray _=Data.dict es ep:=d
     cases d'
    ·obtain⟨r,O,rfl⟩:=ZCy
     have:=(hT r O).2
     rw[e] at this;cases this
     have d':Data.fields #[]=Data.dict es ep:=d
     cases d'
  have Y:∀ {b:Addr} {m:Str->Option Value},j.heap.Ns b m->(Z5_).Ns b m:=λ{b m} ⟨o,es,ep,e,d,r⟩=>⟨o,es,ep,G e (an e d),d,r⟩
  have a7:K.In (Z5_):=λ b o e=>G (KX b o e) (by
   cases q:H b with
   | none=>rfl
   | some u=>
    rcases hA b (by rw[q];simp) with e'|z
    ·subst e'
     rw[hK (by rw[q];simp)] at e;cases e
    ·obtain⟨r,O,rfl⟩:=F2.mp z
     rw[ag r O] at e;cases e)
  have hM:Mod K mg (Z5_):=⟨a7,Y W,⟨mb,Y J,ai⟩,let ⟨mc,h1,h2⟩:=a8;⟨mc,Y h1,h2⟩⟩
  have ah:∀ q∈tabs,Tab mg Z5_ q.1 q.2:=λ q M=>by
   obtain⟨⟨o,ws,a6,tf,a3,tg,al,ab,tt,e1,r1,r2,r3⟩,e2⟩:=hT q M
   have n1:H q.1=none:=by
    cases z:H q.1 with
    | none=>rfl
    | some u=>
     rcases ad e1 (by rw[z];simp) with z|z
     ·rw[r1] at z;exact ZFR
     ·rw[z] at r1;exact absurd r1 (by simp[PySem.W.tabObj])
   obtain⟨bm,ob,b1,b2,b3,b4,b5,b6⟩:=aj
   have n2:H bm=none:=am b3 (by rw[b4];decide) (λ z=>by rw[b6];simp)
   refine⟨⟨o,ws,a6,tf,a3,tg,al,ab,tt,G e1 n1,r1,r2,r3⟩,⟨bm,ob,b1,b2,λ z=>?_,λ z=>?_,G b3 n2,b4,b5,b6⟩,λ z=>?_⟩
   ·obtain⟨og,es,ep,g1,g2,_⟩:=W
    rw[<- z,b3] at g1;cases g1;rw[b6] at g2;cases g2
   ·rw[z,e2] at b3;cases b3;cases b4
   ·obtain⟨og,es,ep,g1,g2,_⟩:=W
    rw[z,e2] at g1;cases g1;cases g2
  have e0:lM P w K mg Z5_ callerA [] j H:=⟨rfl,hM,λ b o e=>xn e,Ka (sP _ _),trivial,λ b J=>absurd (show b∈([]:Zq) from J) Z8,a9,.of_eq hg⟩
  refine Ip ((F _ a7 (Y W) ah).run callerA [] j H Z7w ZKR ZKR _ _ hr e0 (a4 j Z_) ZID (ak H af hS)) λ r s' h=>?_
  cases r with
  | error e=>exact(ae H e s' h).elim
  | ok fl=>
   cases fl with
   | next=>exact ZED
   | brk=>exact ZED
   | cont=>exact ZED
   | ret u=>
    obtain⟨v,H',os,a5,un,a1,r',q⟩:=h
    have q':v=.bl true:=q
    subst q'
    obtain rfl:u=Value.bool true:=r'
    have a2:∀ b o,j.heap.get? b=some o->s'.heap.get? b=some o\/(isCodeTable j.heap b/\o=PySem.W.tabObj #[]/\∃ ps,s'.heap.get? b=some (PySem.W.tabObj ps)):=λ b o e=>by
     cases q:H b with
     | none=>exact .inl (un.keep b o e q (by intro z;exact absurd (show b∈([]:Zq) from z) Z8) Ze)
     | some u=>
      rcases hO b with z|⟨ob,xs,z⟩|⟨m,z⟩
      ·rw[q] at z;cases z
      ·have z2:=un.frzs b ob _ z
       obtain⟨e1,_⟩:=a9 b _ z
       obtain⟨e2,_⟩:=a1 b _ z2
       rw[e] at e1;cases e1
       exact .inl e2
      ·obtain⟨r,O,rfl⟩:=F2.mp m
       obtain⟨more,z2⟩:=un.tbls _ _ z
       have e2:s'.heap.get? r.2=some (PySem.W.tabObj (#[]++more)):=a1 _ _ z2
       have e3:=(hT r O).2
       rw[e] at e3
       exact .inr ⟨((hT r O).1.tab (hT r O).2).isCodeTable,Option.some.inj e3,_,e2⟩
    refine⟨rfl,⟨λ b o e=>?_,λ b o e=>?_⟩,os,a5⟩
    ·rcases a2 b o e with z|⟨t,rfl,ps,hP⟩
     ·exact Z9F
     ·exact .inr (.inl ⟨t,rfl,#[],ps,rfl,by rw[Array.empty_append];exact hP⟩)
    ·rcases a2 b o e with z|⟨t,rfl,ps,hP⟩
     ·exact⟨o,z⟩
     ·exact⟨_,hP⟩
 have U:∀ q∈tabs,j.heap.get? q.2=some { cls:=.none,data:=.fields #[] }:=λ q M=>ZHK
 classical
 cases hk:K.lookup a with
 | some o=>
  have e:=KX a o hk
  rw[ha] at e
  cases e
  refine Z (λ b=>if b∈tabs.map (·.2) then some (.tbl #[]) else none) (λ b=>?_) (λ q M=>FX (F4 M)) (.inr ⟨_,vs.toArray,_,hk,rfl,rfl,rfl,by rw[F7,aa];exact hl,by simpa using rv⟩) (λ b u z=>?_) (λ b z=>?_) λ z=>absurd (FV aT) z
  ·by_cases J:b∈tabs.map (·.2)
   ·exact .inr (.inr ⟨J,FX J⟩)
   ·exact .inl (FV J)
  ·by_cases J:b∈tabs.map (·.2)
   ·have z':=ZG0
    cases z'
    obtain⟨q,M,rfl⟩:=F2.mp J
    exact U q M
   ·have z':=ZG1
    cases z'
  ·by_cases J:b∈tabs.map (·.2)
   ·exact .inr J
   ·exact absurd (FV J) z
 | none=>
  refine Z (λ b=>if b=a then some (.frz { cls:=.type "list",data:=Z44} (.lst Z4p)) else if b∈tabs.map (·.2) then some (.tbl #[]) else none) (λ b=>?_) (λ q M=>?_) (.inl (.inr ⟨{ cls:=.type "list",data:=Z44},Z1X⟩)) (λ b u z=>?_) (λ b z=>?_) λ _=>hk
  ·by_cases J:b=a
   ·exact .inr (.inl ⟨_,_,FX J⟩)
   ·by_cases L:b∈tabs.map (·.2)
    ·exact .inr (.inr ⟨L,by rw[FV J,FX L]⟩)
    ·exact .inl (by rw[FV J,FV L])
  ·show (if q.2=a then _ else _)=_
   rw[FV (λ z:q.2=a=>aT (by rw[<- z];exact F4 M)),FX (F4 M)]
  ·by_cases J:b=a
   ·have z':=ZG0
    cases z'
    subst J
    exact⟨ha,by rw[FO];exact hl,vs,_,rv,ha⟩
   ·have z':=ZG1
    by_cases L:b∈tabs.map (·.2)
    ·have z2:=(FX L).symm.trans z'
     cases z2
     obtain⟨q,M,rfl⟩:=F2.mp L
     exact U q M
    ·have z2:=(FV L).symm.trans z'
     cases z2
  ·by_cases J:b=a
   ·exact .inl J
   ·by_cases L:b∈tabs.map (·.2)
    ·exact .inr L
    ·exact absurd (by rw[FV J,FV L]) z
theorem uG {l:PySem.W.OpenLaw}{n k:Nat}{q:Program}{M:ZT}{XP:(Str->Option Value)->Heap->Prop}{YP:World->Heap->Prop}{d:DefRec}{K:Params->PySem.W.Frag}{CX:World->CXT}{sp:World->Sp}{x:Str}(ts:Zq)
  (hn:l.most=some n) (a5:n<=sizeLine) (a3:d.params.defaults=[]) (hr:eV k callerA)
  (hY:∀ (w:World) (h:Heap),YP w h->(Z2H).In h) (hT:∀ (w:World) (h:Heap),YP w h->∀ P∈ts,h.get? P=some (PySem.W.tabObj #[]))
  (F:∀ (w:World) (mg:Str->Option Value) (Z:Addr) (h:Heap),(Z2H).In h->h.Ns mainGlobals mg->mg d.name=some (.ref Z) ->
   ∃ (fd:FuncData) (tabs:List (Addr×Addr)),(∀ q∈tabs,PySem.W.codeHdIn Z2H q.1 q.2=true/\(Z2H).lookup q.2=none/\q.2∈ts)/\(∀ P∈ts,P∈tabs.map (·.2))/\(∀ (s:Shared) (u:Value),BindsTo s fd ⟨[u],[]⟩ [(x,u)]) /\
    ∀ base:Heap,(Z2H).In base->base.Ns mainGlobals mg->(∀ q∈tabs,ZFU)->dk l.prog w Z2H mg base (CX w) k Z fd [x] (sp w))
  (a6:∀ (w:World) (H:Hp) (a:Addr) (ns:List Int),ns.length<=n->(∀ P∈ts,H P=some (.tbl #[]))->SqL Z2H H a (Z4p)->sp w ZKR H (λ v _=>v=.bl true) λ _ _ _=>False)
  (a1:∀ (w:World) (H:Hp) (s:Shared) (e:Value) (s':Shared),CX w [] H s ZHH e s'->False) :
  PySem.W.WalkO q M XP YP l.row.toRowW d [] Z4l:=by
 refine Att.nY hn a3 λ w s₀ z mg mb Z o pm cd a7 a vs ns G Y ho hd a8 a4 W L j hg=>?_
 have KX:=hY w _ Y
 obtain⟨fd,tabs,J,U,hb,hF⟩:=F w mg Z _ KX G.T.g a4
 have a2:PySem.W.TabsAt tabs z.heap:=λ q O=>⟨PySem.W.codeHd_of_K KX (J q O).1,hT w _ Y _ (J q O).2.2⟩
 exact sD (tabs:=tabs) KX G.T.g G.T.b G.T.builtins G.T.nolimit hg G.T.bmain a2 (λ q O=>(J q O).2.1) W L (Gd j a5) hr hF hb
  (λ H hH hS=>a6 w H a ns j (λ P hP=>by
   obtain⟨q,O,rfl⟩:=F2.mp (U P hP)
   exact hH q O) hS) λ H e s'=>a1 w H z e s'
section
variable {X:Cx}{K:PySem.W.Frag}
theorem vb (U:xs.length<=1000)
  (h:∀ acc,H1 acc=none->∃ F:Nat->St->List V->Hp->Prop,F 0 (σ++List.replicate k none) [] Z3H/\(∀ i j ys H2,i<=xs.length->F i j ys H2->SqT K H2 a xs/\ys.length<=i) /\
   (∀ i x j ys H2,i<xs.length->xs[i]? = some x->F i j ys H2->g x j H2 λ z O=>tc z O λ b L=>if b=true then te z L λ v M=>M acc=some Zb/\Nx xs.length i (F (i+1) z (ys++[v]) (upd M acc (.lst (ys++[v])))) else Nx xs.length i (F (i+1) z ys L)) /\
   ∀ j ys H2,F xs.length j ys H2->Q Zt H2):je ZJm k g tc te σ H1 Q:=by
 intro acc W
 obtain⟨F,Y,pl,ps,Z⟩:=h acc W
 refine⟨λ i m j ys H2=>m=xs.length-i/\i<=xs.length/\F i j ys H2,⟨xs.length,Ze,Z8g,Y⟩,?_⟩
 rintro i m j ys H2 ⟨rfl,hi,p⟩
 obtain⟨q,J⟩:=ZGr
 by_cases G:i<xs.length
 ·refine .inr ⟨⟨xs,xs[i],q,by simp[G]⟩,GI J (dc (by lia)),λ x H3 y=>?_⟩
  obtain⟨e,y⟩:=y
  subst e
  exact ZB2
 ·have e:i=xs.length:=Z1
  subst e
  exact .inl ⟨ZL1,Z j ys H2 p⟩
end
section
variable {X:Cx}{pr:Params}{a:Addr}{kvs:List (Str×Int)}{name:Str}{i:Expr}{ty:TE}{p pos:Pos}
end
section
variable {X:Cx}{K:PySem.W.Frag}
end
section
open PySem.Builtin PySem.Builtin.Str
end
section
variable {X:Cx}
end
def Asc (x:Str):Prop:=∀ c∈x.cps.toList,c<128
end L2
namespace PySem
section
variable {prog:Program}{w:World}{K:Type} [DecidableEq K] {knd:HeapKind prog w K}{A:Around}{E:Value->Shared->Prop}{s:Shared}
theorem iM (f:α->β):∀ (l:List α) (j:Nat),(ZFM).eraseIdx j=(l.eraseIdx j).map f
 | [],_=>Ze
 | x::r,0=>Ze
 | x::r,j+1=>by simp[iM f r j]
theorem lF {xs:List (K×Addr×Value)}(q:(xs.map (·.1)).Nodup):∀ {j:Nat}{k:K}{p:Addr×Value},xs[j]? = some (k,p)->xs.eraseIdx j=xs.filter λ x=>decide (x.1≠k):=by
 induction xs with
 | nil=>intro j k p h;simp at h
 | cons x r G=>
  intro j k p h
  rw[Gq,GX] at q
  cases j with
  | zero=>
   simp only[List.getElem?_cons_zero,Option.some.injEq] at h
   subst h
   rw[List.eraseIdx_cons_zero,HD Z8]
   rw[List.filter_eq_self.mpr]
   intro y F
   refine Gg λ e=>q.1 (F2.mpr ⟨y,F,e⟩)
  | succ j=>
   simp only[List.getElem?_cons_succ] at h
   have z:k∈r.map (·.1):=F2.mpr ⟨(k,p),FT h,rfl⟩
   have J:x.1≠k:=λ e=>q.1 (by rw[e];exact z)
   rw[List.eraseIdx_cons_succ,G q.2 h,HC (p:=λ x:K×Addr×Value=>decide (x.1≠k)) (by simpa using J)]
theorem nD {d a:Addr}{xs:List (K×Addr×Value)}{k:K}{p:Addr×Value}{Q:Option DictEntry->Shared->Prop}(hu:knd.room A) (z:ZGt) (hm:ZCf) (V:atKey xs k=some p)
  (F:∀ h',h'.DictOfH knd d (xs.filter λ x=>decide (x.1≠k))->Heap.SameBut d s.heap h'->Q (some ⟨knd.hash k,.ref p.1,p.2⟩) { s with heap:=h',toks:=s.toks+knd.draws k })
  (hsz:xs.length<=sizeLine):wpAny ZF A (Builtin.Dict.takeOut d Z_) Q E s:=by
 obtain⟨o,es,ep,M,hc,G,J,L,U⟩:=hm
 unfold Builtin.Dict.takeOut
 try with_reducible refine Gp ?_
 refine FI (knd.pyHash hu z ?_)
 refine FI (wpAny_dictFind_heap (s:={ s with toks:=s.toks+knd.draws k }) hu z M G J L U ?_ ?_)
 ·intro Z
  rw[atKey_none_of_get Z] at V
  cases V
 ·intro j q O
  have W:q=p:=by rw[atKey_of_get U O] at V;exact Option.some.inj V
  subst W
  refine FI (Hi (s:={ s with toks:=s.toks+knd.draws k }) M G ?_)
  rw[entry_at J j,O]
  refine FI (wpAny_updateDictKeys (hz:=by have e:=HP J;lia) (s:={ s with toks:=s.toks+knd.draws k }) M G (FN (F _ ⟨_,_,ep+1,Heap.get?_update_self _ M (Obj.isFreed_of_dict ZC4),
   hc.mapDictKeys _,ZC4,?_,?_,?_⟩ (Heap.SameBut.update ..))))
  ·rw[<- lF U O]
   have Y:j<es.size:=by
    rw[HP J]
    exact ZG3
   show (es.eraseIdxIfInBounds j).toList=_
   rw[Array.eraseIdxIfInBounds,dif_pos Y,Array.toList_eraseIdx,J,iM]
  ·intro x hx
   exact knd.keeps (L x (GG.mp hx).1) M G (Heap.SameBut.update ..)
  ·exact(List.filter_sublist.map _).nodup U
theorem jV (knd:ZHD) (d a) :
  MeetsIn prog w (Builtin.«dict.pop» ⟨[ZCG,Z_],[]⟩) (λ A R s=>knd.room A.in1/\∃ k xs p,knd.is s.heap k a/\s.heap.DictOfH knd d xs/\xs.length<=sizeLine/\atKey xs k=some p /\
   ∀ h',h'.DictOfH knd d (xs.filter λ x=>decide (x.1≠k))->Heap.SameBut d s.heap h'->R ZI9 { s with heap:=h',toks:=s.toks+knd.draws k }):=
 .of_wp λ A R s ⟨W,k,xs,p,j,q,J,L,h⟩=>by
  unfold Builtin.«dict.pop»
  refine Z3V
  unfold Builtin.Dict.keyAndDefault
  refine FI (IW q.typeIs ?_)
  show wpAny _ _ (pure (d,Z7a,none)) _ _ s
  refine Z5h
  obtain⟨o,es,ep,V,Z,M,O,U,hn⟩:=id q
  have Y:es.isEmpty=false:=by
   have:es.size≠0:=by
    rw[HP O]
    intro z
    rw[List.length_eq_zero_iff.mp z] at L
    cases L
   simp[Array.isEmpty,this]
  simp only[show (keyPart (Value.ref a)).isSome=false from rfl,Ge,Hb]
  refine FI (Hi V M ?_)
  refine Z6v
  rw[Y]
  simp only[Ge,Hb]
  refine FI (nD W j q L (λ h' F G=>?_) J)
  simp only[Option.isNone_some,Ge,Hb]
  exact FI (Io (FN ⟨_,rfl,h h' F G⟩))
theorem iI (W:knd.room A) (q:ZGt) (hm:ZCf)
  (h1:∀ p,atKey xs k=some p->Q p.2 { s with toks:=s.toks+knd.draws k })
  (h2:atKey xs k=none->∀ h',h'.DictOfH knd d (xs++[(k,a,dflt)])->Heap.SameBut d s.heap h'->Q dflt { s with heap:=h',toks:=s.toks+knd.draws k })
  (hsz:xs.length<=sizeLine):wpAny ZF A (dictSetDefault d Z_ dflt) Q E s:=by
 obtain⟨o,es,ep,G,Z,F,O,J,U⟩:=hm
 unfold dictSetDefault
 try with_reducible refine Gp ?_
 refine FI (knd.pyHash W q ?_)
 refine FI (wpAny_dictFind_heap (s:={ s with toks:=s.toks+knd.draws k }) W q G F O J U ?_ ?_)
 ·intro L
  have M:k∉xs.map (·.1):=not_mem_keys_of_get L
  refine FI (Ia (FI (wpAny_updateDictKeys (hz:=by have e:=HP O;lia) (s:={ s with toks:=s.toks+knd.draws k }) G F (FN (h2 (atKey_none_of_get L) _ ⟨_,_,ep+1,Heap.get?_update_self _ G (Obj.isFreed_of_dict ZC5),
   Z.mapDictKeys _,ZC5,?_,?_,?_⟩ (Heap.SameBut.update ..))))))
  ·simp[O,entryOfKey]
  ·intro x z
   rcases FY.mp z with z|z
   ·exact knd.keeps (J x z) G F (Heap.SameBut.update ..)
   ·simp only[FL] at z
    subst z
    exact knd.keeps q G F (Heap.SameBut.update ..)
  ·rw[F0,GP]
   refine⟨U,Ze,?_⟩
   intro x z y Y
   simp only[Gq,Jh,FL] at Y
   subst Y
   exact λ e=>M (e ▸ z)
 ·intro j p V
  refine FI (Hi (s:={ s with toks:=s.toks+knd.draws k }) G F ?_)
  rw[entry_at O j,V]
  exact FI (Ia (FN (h1 p (atKey_of_get U V))))
theorem gI (knd:ZHD) (d a) (J:(d == sysModules)=false) (j) :
  MeetsIn prog w (Builtin.«dict.setdefault» ⟨[ZCG,Z_,j],[]⟩) (λ A R s=>knd.room A.in1/\∃ k xs,knd.is s.heap k a/\s.heap.DictOfH knd d xs/\xs.length<=sizeLine /\
   (∀ p,atKey xs k=some p->R ZI9 { s with toks:=s.toks+knd.draws k }) /\
   (atKey xs k=none->∀ h',h'.DictOfH knd d (xs++[(k,a,j)])->Heap.SameBut d s.heap h'->R (.ok (.ret j)) { s with heap:=h',toks:=s.toks+knd.draws k })):=
 .of_wp λ A R s ⟨M,k,xs,q,G,U,h1,h2⟩=>by
  unfold Builtin.«dict.setdefault»
  refine Z3V
  unfold Builtin.Dict.keyAndDefault
  refine FI (IW G.typeIs ?_)
  show wpAny _ _ (pure (d,Z7a,some j)) _ _ s
  refine Z5h
  show wpAny _ _ (if (d == sysModules)=true then _ else (dictSetDefault d Z_ j >>= _)) _ _ s
  rw[FV (by rw[J];exact Gb)]
  exact FI (iI M q G (λ v O=>FN ⟨v.2,rfl,h1 v O⟩) (λ L h' z F=>FN ⟨j,rfl,h2 L h' z F⟩) U)
end
end PySem
namespace L2
open PySem PySem.Spec PyProof.Rows
theorem KT.drop (r:Z4N) (k):KT H ZLI (xs.filter λ x=>decide (x.1≠k)):=by
 unfold mC
 induction r with
 | nil=>exact .nil
 | @cons p q ps z h t j=>
  by_cases e:p.1=k
  ·rw[HD (by simp[e]),HD (by rw[<- h.1];simp[e])]
   exact j
  ·rw[HC (by simp[e]),HC (by rw[<- h.1];simp[e])]
   exact .cons h j
theorem KT.atKey (r:Z4N) (h:eu kvs k=some v):∃ p,PySem.atKey xs k=some p/\RelV v p.2:=by
 obtain⟨G,F,q⟩:=gO.some_of (v:=v) (o:=(PySem.atKey xs k).map (·.2)) (by rw[<- h];exact r.val k)
 obtain⟨p,z,j⟩:=Gs.mp F
 exact⟨p,z,by rw[j];exact q⟩
section
variable {X:Cx}
theorem ur (I:Z7) (e:H a=some Zl) (M:(a == sysModules)=false) (hs:ZCA)
  (dd:h'.DictOfH Z2A a xs') (r:KT H kvs' xs') (O:kvs'.length<=sizeLine):Inv X pins σ (upd H a (.dT kvs')) { s with heap:=h',toks:=t' }:=by
 obtain⟨q,es,ep,F,h2,G,J,_,L⟩:=dd
 refine mO I (by rw[e];exact True.intro) hs ⟨q,F⟩ ⟨O,M,_,r.keeps λ c ys j=>?_,q,es,ep,F,h2,G,J,L⟩
 rw[cz (fO j e (λ z=>nomatch z))]
 exact j
inductive zd (x:V) (vs:List V) (H:Hp) (Q:VK):Prop
 | mk:∀ a b kvs k v,x=.ref a->vs=[Zj]->H a=some Zl->H b=some Z0j->eu kvs k=some v->Q v (upd H a (.dT ZLI))->zd x vs H Q
theorem wI (U:X.A.units+1<cLine):MtM X "dict.pop" zd:=by
 intro pins s σ H x vs v us Q I rx Z h
 obtain⟨a,b,kvs,k,y,rfl,rfl,e,J,V,q⟩:=h
 cases rx
 obtain⟨u,rfl,Y⟩:=Z.one
 cases (show u=Value.ref b from Y)
 obtain⟨z,L,xs,j,G⟩:=ZGo
 obtain⟨p,M,W⟩:=j.atKey V
 refine J7 PySem.F.slot_dict_pop G.typeIs PySem.F.entry_dict_pop (PySem.F.args_dict_pop_2 _ _) (jV Z2A a b)
  ⟨Ib U,k,xs,p,ZGv,G,by rw[<- Paired.length j];exact z,M,λ h' F O=>⟨y,_,ur I e L O F (j.drop k) (Gd (vQ kvs k) z),W,q⟩⟩
inductive oC (x:V) (vs:List V) (H:Hp) (Q:VK):Prop
 | mk:∀ a b kvs k y,x=.ref a->vs=[Zj,y]->H a=some Zl->H b=some Z0j->kvs.length<sizeLine->(∀ v,eu kvs k=some v->Q v H)->(eu kvs k=none->Q y (upd H a (.dT (kvs++[(k,y)]))))->oC x vs H Q
theorem kC (hu:X.A.units+1<cLine):MtM X "dict.setdefault" oC:=by
 intro pins s σ H x vs v us Q I rx rv h
 obtain⟨a,b,kvs,k,y,rfl,rfl,e,U,hl,q1,q2⟩:=h
 cases rx
 obtain⟨u,M,rfl,ru,J⟩:∃ u M,us=u::M/\RelV (.ref b) u/\Vals [y] M:=by cases rv with|cons a b=>exact⟨_,_,rfl,a,b⟩
 obtain⟨u2,rfl,q⟩:=J.one
 cases (show u=Value.ref b from ru)
 obtain⟨z,V,xs,j,O⟩:=ZGo
 refine J7 Jd O.typeIs PySem.F.entry_dict_setdefault (PySem.F.args_dict_setdefault_3 _ _ _) (gI Z2A a b V u2)
  ⟨Ib hu,k,xs,iT I.hok U,O,by rw[<- Paired.length j];exact z,λ p Y=>?_,λ W h' F Z=>?_⟩
 ·have r:=j.val k
  rw[Y] at r
  obtain⟨v,hv,L⟩:∃ v,eu kvs k=some v/\RelV v p.2:=by
   cases h:eu kvs k with
   | none=>rw[h] at r;exact(show False from r).elim
   | some v=>rw[h] at r;exact⟨v,rfl,r⟩
  exact⟨v,H,Z1u,L,q1 v hv⟩
 ·have G:eu kvs k=none:=by
   have r:=j.val k
   rw[W] at r
   cases h:eu kvs k with
   | none=>rfl
   | some v=>rw[h] at r;exact(show False from r).elim
  exact⟨y,_,ur I e V Z F (Paired.snoc j ⟨rfl,U,q⟩) (by rw[FQ];show _+1<=_;lia),q,q2 G⟩
end
end L2
namespace PySem
section
variable {prog:Program}{w:World}{K:Type} [DecidableEq K] {knd:HeapKind prog w K}{A:Around}{E:Value->Shared->Prop}{s:Shared}
theorem oO {es:List DictEntry}(q:(es.map (·.hash)).Nodup) {e:DictEntry}(j:e∈es):(es.filter (·.hash == e.hash)).length<=1:=by
 induction es with
 | nil=>cases j
 | cons x r G=>
  rw[Gq,GX] at q
  by_cases h:x.hash=e.hash
  ·rw[HC (by simp[h]),IU.mpr]
   ·simp
   ·intro y F z
    exact q.1 (F2.mpr ⟨y,F,by simpa [h] using z⟩)
  ·rw[HD (by simp[h])]
   rcases FR.mp j with rfl|j
   ·exact ZDx
   ·exact G q.2 j
theorem g9 {id:String}{d:Addr}{o:Obj}{es ep}{Q:Array DictEntry->Shared->Prop}(M:s.heap.get? d=some o) (J:o.data=.dict es ep)
  (O:∀ e∈es.toList,∃ b,e.key=.ref b/\s.TypeIs Zj "tuple") (L:(es.toList.map (·.hash)).Nodup) (h:Q es s) :
  wpAny ZF A (Builtin.Dict.entriesForEmpty id d) Q E s:=by
 unfold Builtin.Dict.entriesForEmpty
 refine FI (Hi M J ?_)
 refine Z3V
 rw[<- Array.forIn_toList]
 refine wpAny_forIn_list _ (λ rest _ s'=>s'=s/\∀ e∈rest,e∈es.toList) _ ?_ ?_ _ _ ⟨rfl,λ e j=>j⟩
 ·rintro x rest r s' ⟨rfl,q⟩
  obtain⟨b,z,G⟩:=O x (q x FZ)
  refine Z3V
  rw[z]
  unfold Builtin.Dict.quietEq
  refine FI (Jc G F.slot_tuple_eq.lookup Zi)
  have W:=oO L (q x FZ)
  have U:¬ (es.filter (·.hash == x.hash)).size>1:=by
   have V:(es.filter (·.hash == x.hash)).size=(es.toList.filter (·.hash == x.hash)).length:=by
    rw[<- F3,Array.toList_filter]
   lia
  rw[FX Z4,FV U]
  exact FN ⟨rfl,λ e j=>q e ZGh⟩
 ·rintro r s' ⟨rfl,_⟩
  exact FN h
theorem lz (M:d≠o) (O:(o == sysModules)=false)
  (z:s.heap.get? d=some od) (q:od.data=.dict #[] epd) (F:s.heap.get? o=some oo) (j:oo.data=.dict es ep)
  (V:∀ e∈es.toList,∃ b,e.key=.ref b/\s.TypeIs Zj "tuple") (Y:(es.toList.map (·.hash)).Nodup) (hsz:es.size<=sizeLine)
  (U:∀ h' od' J,h'.get? d=some od'->od'.data=.dict es J->(od.ExactDict->od'.ExactDict)->Heap.SameBut d s.heap h'->Q () { s with heap:=h' }) :
  wpAny ZF A (Builtin.Dict.mergeDict nm d o) Q E s:=by
 unfold Builtin.Dict.mergeDict
 rw[FV (by simpa using M)]
 unfold Builtin.Dict.showsAll
 rw[FV (by rw[O];exact Gb)]
 refine Z6v
 refine ZKf
 dsimp only
 by_cases G:es = #[]
 ·subst G
  rw[ZEE]
  refine FI (JG F j ?_)
  refine ZKf
  refine Z3V
  rw[Std.Legacy.Range.forIn_eq_forIn_range']
  refine wpAny_forIn_list _ (λ rest _ s'=>s'=s/\rest=[]) _ ?_ ?_ _ _ Z05
  ·rintro x rest r s' ⟨_,e⟩;cases e
  ·rintro r s' ⟨rfl,_⟩
   exact FN (U _ od epd z q id Z5r)
 ·have L:(decide (es.size<=8) && es.all λ e=>ZDd)=false:=by
   have:(es.all λ e=>ZDd)=false:=by
    rw[<- Array.all_toList]
    cases h:es.toList with
    | nil=>exact absurd (by rw[<- Array.toList_inj];exact h) G
    | cons x r=>
     obtain⟨b,W,_⟩:=V x (by rw[h];exact FZ)
     rw[Jt,W]
     rfl
   rw[this,Kt]
  rw[L]
  rw[FX Z4]
  refine FI (Hi z q ?_)
  rw[FX Z4]
  refine FI (g9 F j V Y ?_)
  rw[FX (by cases h:es.isEmpty with|true=>exact absurd (Array.isEmpty_iff.mp h) G|false=>rfl)]
  refine FI (wpAny_updateDictKeysTo z q (FN (U _ _ (epd+1) (Heap.get?_update_self _ z (Obj.isFreed_of_dict ZBB)) ZBB (λ h=>h.mapDictKeys _) (Heap.SameBut.update ..))) Z1)
theorem lB (a1:(o == sysModules)=false) (L:s.heap.get? o=some oo) (hx:oo.ExactDict) (O:oo.data=.dict es ep)
  (hq:∀ e∈es.toList,∃ b,e.key=.ref b/\s.TypeIs Zj "tuple") (hn:(es.toList.map (·.hash)).Nodup) (hsz:es.size<=sizeLine)
  (h:∀ h' od G,h'.get? s.heap.objs.size=some od->od.data=.dict es G->od.ExactDict->(∀ b u,s.heap.get? b=some u->h'.get? b=some u)->Q ZD { s with heap:=h' }) :
  wpAny ZF A (call (.type "dict") [.ref o]) Q E s:=by
 refine callType_codes (Q₁:=λ U j=>U=.ref s.heap.objs.size/\j={ s with heap:=s.heap.push { cls:=.type "dict",data:=.dict #[] } }) F.kt_called_dict (F.kt_typeCall_dict_1 _) F.entry_dict_init (kt_code_dict_new _ Z05) ?_
 rintro U j ⟨rfl,rfl⟩
 have hg:(s.heap.push { cls:=.type "dict",data:=.dict #[] }).get? s.heap.objs.size=some { cls:=.type "dict",data:=.dict #[] }:=ZG
 have V:∀ b u,s.heap.get? b=some u->(s.heap.push { cls:=.type "dict",data:=.dict #[] }).get? b=some u:=λ b u e=>ZH
 have M:({ s with heap:=s.heap.push { cls:=.type "dict",data:=.dict #[] } }:Shared).TypeIs ZD "dict":=⟨_,hg,rfl⟩
 have J:({ s with heap:=s.heap.push { cls:=.type "dict",data:=.dict #[] } }:Shared).TypeIs (.ref o) "dict":=⟨_,V _ _ L,hx.1⟩
 have Y:s.heap.objs.size≠o:=λ e=>absurd (Heap.lt_size L) (by rw[e];exact GZ _)
 refine⟨M,F.args_dict_init_2 _ _,?_⟩
 unfold Builtin.«dict.__init__»
 refine Z3V
 unfold Builtin.Dict.selfAndRest
 refine FI (IW M ?_)
 show wpAny _ _ (pure (s.heap.objs.size,[Value.ref o])) _ _ _
 refine Z5h
 show wpAny _ _ (Builtin.Dict.updateFrom "dict.__init__" s.heap.objs.size (.ref o) [] .none) _ _ _
 unfold Builtin.Dict.updateFrom
 refine FI (JA J ?_)
 rw[ZEF]
 refine Z3V
 unfold Builtin.Dict.merge
 refine Z3V
 unfold Builtin.Dict.readDirectly
 refine FI (HG J isSubtype_dict_dict ?_)
 simp only[Ij,Ge,Hb]
 refine FI (Jc J F.slot_dict_iter.lookup Zi)
 simp only[Jv,IG]
 refine Z6v
 refine lz Y a1 hg rfl (V _ _ L) O (λ e he=>?_) hn hsz λ h' a4 G Z W a3 a2=>?_
 ·obtain⟨b,eb,q,hb,hc⟩:=hq e he
  exact⟨b,eb,q,V _ _ hb,hc⟩
 ·show wpAny _ _ (Builtin.Dict.addKeywords s.heap.objs.size [] >>= _) _ _ _
  exact FI (FN (FN ⟨rfl,h h' a4 G Z W (a3 Z8T) λ b u e=>(a2.2 b λ z=>absurd ZK (by rw[z];exact GZ _)).trans (V _ _ e)⟩))
end
end PySem
namespace L2
open PySem PySem.Spec PyProof.Rows
noncomputable def hT (w:World) (k:Z9l):Int:=reduceHash (Builtin.Tuple.tupleHashOf (k.map (AE w)))
section
variable {X:Cx}
inductive vM (w:World) (xs:List V) (H:Hp) (Q:VK):Prop
 | mk:∀ a kvs,xs=[.ref a]->Rd H a (.dT kvs)->(kvs.map λ p=>hT w p.1).Nodup->(∀ l,H l=none->Q Zg (upd H l Zl))->vM w xs H Q
theorem KT.FH (r:Z4N):xs.map (·.1)=kvs.map (·.1):=by
 induction r with
 | nil=>rfl
 | @cons p q ps z h t j=>rw[Gq,Gq,j,h.1]
theorem kI:eG X (.type "dict") (vM X.w):=by
 intro pins s σ H xs us Q I r h
 obtain⟨a,kvs,rfl,e,hh,q⟩:=h
 obtain⟨u,rfl,ru⟩:=Z4x
 cases ru
 obtain⟨z,hd,xs,j,o,es,ep,ho,hx,F,L,U,hn⟩:=Z5F
 have Z:es.toList.map (·.hash)=kvs.map λ p=>hT X.w p.1:=by
  rw[L,GJ]
  have:(kvs.map λ p=>hT X.w p.1)=(kvs.map (·.1)).map (hT X.w):=by rw[GJ];rfl
  rw[this,<- KT.FH j,GJ]
  rfl
 have a2:kvs.length=es.size:=by rw[HP L];exact Paired.length j
 refine lB hd ho hx F (λ en G=>?_) (by rw[Z];exact hh) Z1 λ h' od M hg O V kp=>?_
 ·rw[L] at G
  obtain⟨x,W,rfl⟩:=F2.mp G
  obtain⟨ob,a1,n,h1,h2,h3,_⟩:=U x W
  exact⟨x.2.1,rfl,ob,h1,h2⟩
 ·have J:H s.heap.objs.size=none:=Z1p
  refine⟨ZD,_,I.laid (a:=s.heap.objs.size) (o:=.dT kvs) (t':=s.toks) kp Z9 ⟨z,?_,xs,j.keeps λ c ys Y=>?_,od,es,M,hg,V,O,L,hn⟩,rfl,q _ J⟩
  ·have:=I.big
   rw[HE]
   exact GV this
  ·rw[cz (cB Y J)];exact Y
end
end L2
namespace PySem
section
variable {prog:Program}{w:World}{A:Around}{E:Value->Shared->Prop}{s:Shared}
theorem ky (J:(d == sysModules)=false) (z:s.heap.get? d=some o) (L:o.ExactDict) (j:o.data=.dict es ep)
  (G:Q ZD { s with heap:=s.heap.push { cls:=.type "dict_keyiterator",data:=.fields #[ZCG,Z6l,ZKj,ZJR] } }) :
  wpAny ZF A (pyIter ZCG) Q E s:=by
 have q:s.TypeIs ZCG "dict":=⟨o,z,L.1⟩
 refine JX q F.slot_dict_iter (Hf F.slot_dict_iter q F.entry_dict_iter ?_ (F.args_dict_iter_1 _))
 unfold Builtin.«dict.__iter__»
 refine Z3V
 unfold Builtin.Dict.dictSlotNone
 refine FI (IW q ?_)
 show wpAny _ _ (pure (Value.ref d)) _ _ s
 refine Z5h
 show wpAny _ _ (Builtin.Dict.showsAll d >>= _) _ _ s
 unfold Builtin.Dict.showsAll
 rw[FV (by rw[J];exact Gb)]
 refine FI (FN (FI (Hi z j (FI (JG z j ?_)))))
 refine FI (Hr (FN ⟨_,rfl,"dict_keyiterator",_,Z73,F.slot_dict_keyiterator_next.lookup,?_⟩))
 simpa [rawInt] using G
theorem kD (j:Z7q) (J:s.heap.get? d=some od) (z:od.data=.dict es ep) (G:i<es.size)
  (U:∀ h',h'.IsKeyIter it d (i+1) es.size ep->Heap.SameBut it s.heap h'->Q (some es[i].key) { s with heap:=h' }) :
  wpAny ZF A Z4u Q E s:=by
 obtain⟨o,O,V,M⟩:=id j
 unfold pyNext
 refine FI (IB (IK (name:=Str.ofString "__next__") j.typeIs F.slot_dict_keyiterator_next
  (Hf F.slot_dict_keyiterator_next j.typeIs F.entry_dict_keyiterator_next ?_ Z7u)))
 refine Z6v
 refine Z3V
 refine Z3V
 first|refine FI ZI5|refine ZFe
 refine FI (JP O M ?_)
 have L:Builtin.Dict_items.ownsTuple "dict_keyiterator" = false:=Z4
 simp only[L,Ge,Hb]
 show wpAny _ _ (if (Value.ref d == Value.none)=true then _ else _) _ _ s
 rw[FV (show ¬ ((Value.ref d == Value.none)=true) from Gb)]
 refine FI (FN (FI (Hi J z ?_)))
 rw[ZEE]
 refine FI (FN (FI (JG J z ?_)))
 rw[ZEE]
 refine Z5h
 simp only[show ¬ ((i:Int)<0) from by lia,Hb,GB,Gn G]
 refine Z3V
 first|refine FI ZI5|refine ZFe
 refine FI (wpAny_isOneOf_keyiter j.typeIs ?_)
 show wpAny _ _ (setField Z1_ 1 (rawInt ((i:Int)+1)) >>= _) _ _ s
 refine FI (Ji O M Z8 ?_)
 have q:(s.heap.update it (Obj.mapFields (·.setIfInBounds 1 (rawInt ((i:Int)+1))))).IsKeyIter it d (i+1) es.size ep:=
  ⟨_,Heap.get?_update_self _ O (Obj.isFreed_of_fields (Obj.data_mapFields M _)),(Obj.cls_mapFields ..).trans V,by rw[Obj.data_mapFields M];simp[rawInt]⟩
 refine Z8i
 refine FI (wpAny_isOneOf_keyiter (s:={ s with heap:=s.heap.update it (Obj.mapFields (·.setIfInBounds 1 (rawInt ((i:Int)+1)))) }) q.typeIs ?_)
 show wpAny _ _ (pure es[i].key) _ _ _
 exact FN (FN ⟨_,rfl,FN (U _ q (Heap.SameBut.update ..))⟩)
theorem mZ {it d:Addr}{i ep:Nat}{od:Obj}{es:Z4V}{Q:Option Value->Shared->Prop}(hh:A.handled=none) (hit:Z7q) (hod:s.heap.get? d=some od) (hdd:od.data=.dict es ep) (hge:es.size<=i)
  (hQ:∀ h',Heap.ExtBut it s.heap h'->Q none { s with heap:=h' }):wpAny ZF A Z4u Q E s:=by
 obtain⟨o,ho,hc,hd⟩:=id hit
 unfold pyNext
 refine FI (IB (IK (name:=Str.ofString "__next__") hit.typeIs F.slot_dict_keyiterator_next
  (Hf F.slot_dict_keyiterator_next hit.typeIs F.entry_dict_keyiterator_next ?_ Z7u)))
 refine Z6v
 refine Z3V
 refine Z3V
 first|refine FI ZGg|refine ZEH
 refine FI (JP ho hd ?_)
 have hown:Builtin.Dict_items.ownsTuple "dict_keyiterator" = false:=Z4
 simp only[hown,Ge,Hb]
 show wpAny _ _ (if (Value.ref d == Value.none)=true then _ else _) _ _ s
 rw[FV (show ¬ ((Value.ref d == Value.none)=true) from Gb)]
 refine FI (FN (FI (Hi hod hdd ?_)))
 rw[ZEE]
 refine FI (FN (FI (JG hod hdd ?_)))
 rw[ZEE]
 refine Z5h
 simp only[show ¬ ((i:Int)<0) from by lia,Hb,GB,G0 hge]
 refine Z3V
 first|refine FI ZGg|refine ZEH
 show wpAny _ _ (setField Z1_ 0 .none >>= _) _ _ s
 refine FI (Ji ho hd Z8 ?_)
 show wpAny _ _ (newExc (.type "StopIteration") [] >>= _) _ _ _
 refine Z3V
 simp only[newExc,newTuple]
 refine FI (Hr ?_ (by size_fits))
 refine FI (m:=ZGN) (G9 (a:=Value.none) (by first|rfl|(simp only[firstArgMember];rfl)) ?_)
 refine Hr ?_ (by size_fits)
 simp only[raiseNew]
 refine ZEG
 rw[show A.in1.handled=none from hh]
 refine ZCE
 refine FI (HG (T:="StopIteration") (b:=true) Z73 isSubtype_stop ?_)
 exact FN (hQ _ (((Heap.SameBut.update ..).extBut.push _).push _))
end
end PySem
namespace L2
open PySem PySem.Spec PyProof.Rows
section
variable {X:Cx}{pins:List (Addr×Obj)}{σ:St}{H:Hp}{s:Shared}
theorem Inv.zc {a:Addr}{u u':HO}(I:Z7) (e:H a=some u) (nt:∀ xs,u≠.tup xs) (nb:∀ ps,u≠.tbl ps) (no:∀ b,u≠.own b) (nf:∀ o v,u=.frz o v->(∀ o' v',X.H₀ a≠some (.frz o' v'))/\∀ x c,X.env.cells.lookup x=some c->c≠a)
  (ok:dm X.prog X.w (upd H a u') s.heap a u'):Inv X pins σ (upd H a u') s:=by
 have ne:∀ {b:Addr} {v:HO},H b=some v->v≠u->b≠a:=λ h n z=>by rw[z,e] at h;exact n (Z4P).symm
 have n0:∀ {b:Addr},H b=none->b≠a:=λ h z=>by rw[z,e] at h;cases h
 refine⟨I.ok,I.os,I.bare,⟨I.base.keep,I.base.slot,λ b o q n hx=>?_,I.base.there,λ b xs q=>?_,λ b o v q=>?_,λ b ps q=>?_⟩,I.loc,I.cell,?_,λ x c q=>?_,λ p hp=>?_,λ b v q=>?_,I.len⟩
 ·have:=I.base.free b o q n hx
  rw[cz (n0 this)];exact this
 ·have:=I.base.tups b xs q
  rw[cz (ne this λ z=>nt xs z.symm)];exact this
 ·have h1:=I.base.frzs b o v q
  rw[cz λ z=>?_]
  ·exact h1
  ·subst z
   rw[e] at h1
   exact(nf o v Z3C).1 o v q
 ·obtain⟨m,h1⟩:=I.base.tbls b ps q
  exact⟨m,by rw[cz (ne h1 λ z=>nb _ z.symm)];exact h1⟩
 ·rw[cz (n0 I.free)];exact I.free
 ·rcases I.freeC x c q with h1|⟨h1,o,v,h2⟩
  ·exact .inl (by rw[cz (n0 h1)];exact h1)
  ·refine .inr ⟨h1,o,v,?_⟩
   rw[cz λ z=>?_]
   ·exact h2
   ·have h3:u=.frz o v:=by rw[z,e] at h2;exact Option.some.inj h2
    exact(nf o v h3).2 x c q z
 ·obtain⟨h1,h2,h3⟩:=ZHC
  exact⟨h1,by rw[cz (n0 h2)];exact h2,h3⟩
 ·by_cases z:b=a
  ·subst z
   rw[cy] at q;cases q;exact ok
  ·rw[cz z] at q
   refine(I.hok b v q).lI (λ c o hc r=>r) (λ c r=>?_) λ c xs r=>?_
   ·rw[cz (ne r λ z=>no _ z.symm)];exact r
   ·rw[cz (ne r λ z=>nt _ z.symm)];exact r
theorem yL (F:dm X.prog X.w H h a Zl) (j:∀ b xs,H b=some ZU->H' b=some ZU):dm X.prog X.w H' h a Zl:=by
 obtain⟨z,y,xs,r,q⟩:=F
 exact⟨z,y,xs,KT.keeps r j,q⟩
theorem Inv.xq (I:Z7) (e:H a=some Zl):∃ o,s.heap.get? a=some o/\Inv X pins σ (upd H a Z1C) s:=by
 have j:=Z7b
 obtain⟨z,y,xs,r,o,es,ep,h1,h2⟩:=id j
 refine⟨o,h1,I.zc e (λ _ z=>nomatch z) (λ _ z=>nomatch z) (λ _ z=>nomatch z) (λ _ _ z=>nomatch z) ⟨h1,yL j λ b xs q=>?_⟩⟩
 rw[cz (fO q e (λ z=>nomatch z))];exact q
theorem Inv.D4 (I:Z7) (e:H a=some Z1C) (n:∀ o' G,X.H₀ a≠some (.frz o' G)):Inv X pins σ (upd H a Zl) s:=by
 obtain⟨h1,F⟩:=(show dm X.prog X.w H s.heap a Z1C from Z7b)
 refine I.zc e (λ _ z=>nomatch z) (λ _ z=>nomatch z) (λ _ z=>nomatch z) (λ o' G z=>⟨n,λ x c q z=>?_⟩) (yL F λ b xs q=>?_)
 ·obtain⟨v,O,h2,j⟩:=I.cell x c q
  obtain⟨_,_,_,_,M,es,ep,J,_,L,_⟩:=F
  rw[z,J] at h2;cases h2
  rw[L] at j;cases j
 ·rw[cz (fO q e (λ z=>nomatch z))];exact q
end
theorem Paired.rf:∀ {xs:List α}{ys:List β}{i:Nat}{x:α},Paired F xs ys->xs[i]? = some x->∃ y,ys[i]? = some y/\F x y
 | _,_,_,_,.nil,e=>by simp at e
 | _,_,0,_,.cons a _,e=>by simp at e;subst e;exact⟨_,rfl,a⟩
 | _,_,i+1,v,.cons _ b,e=>by
  obtain⟨r,h1,h2⟩:=Paired.rf (i:=i) b (by simpa using e)
  exact⟨r,by simpa using h1,h2⟩
noncomputable def Itk (a:Addr) (o:Obj) (kvs:List (List Key×V)):It:=
 ⟨λ i H=>H a=some Z1C/\i<kvs.length,λ i H x H'=>H'=H/\∃ b k v,x=.ref b/\kvs[i]? = some (k,v)/\H b=some Z0j,λ i H=>H a=some Z1C/\kvs.length<=i⟩
theorem sr {P:Program}{w:World}{K:PySem.W.Frag}{tg:Expr}(a it:Addr) {o:Obj}{es:Z4V}{ep:Nat}{kvs:List (List Key×V)}(hd:o.data=.dict es ep) (hn:es.size=kvs.length) :
  Turn P w K tg Z4S [it] it (λ i h=>h.IsKeyIter it a i es.size ep) where
 mem:=Ze
 obj:=λ i h st b j=>by
  have e:b=it:=by simpa using j
  subst e
  obtain⟨o,e,c,d⟩:=st
  exact⟨o,e,λ v z=>by rw[d] at z;cases z⟩
 keep:=λ i h h' st k=>by
  obtain⟨o,e,c⟩:=st
  exact⟨o,k it Z8 o e,c⟩
 item:=by
  intro X hP hw Z hc i pins s σ H E I L st hg
  subst hP hw Z
  obtain⟨e,hi⟩:=hg
  obtain⟨h1,ok⟩:=(show dm X.prog X.w H s.heap a Z1C from Z7b)
  obtain⟨z,y,xs,r,o1,a2,a1,g1,g2,g3,g4,g5⟩:=ok
  rw[h1] at g1;cases g1
  rw[hd] at g3;cases g3
  obtain⟨M,O,f2,U,W,Y⟩:=L it Z8
  have G:i<es.size:=Z1
  refine kD st h1 hd G λ h' J sb=>?_
  have I1:Inv X pins σ H { s with heap:=h' }:=I.turned (t':=s.toks) (λ b o j e=>(sb.2 b j).trans e) M O U W Y
  obtain⟨oi,ei,ci,di⟩:=id J
  obtain⟨⟨k,v⟩,F⟩:∃ p,kvs[i]? = some p:=⟨_,ZCw⟩
  obtain⟨q,hq,q1,q2,q3⟩:∃ q,xs[i]? = some q/\k=q.1/\H q.2.1=some (.tup (k.map kV))/\RelV v q.2.2:=by
   have:=Paired.rf (i:=i) r F
   obtain⟨q,hq,h⟩:=this
   exact⟨q,hq,h⟩
  have ek:es[i].key=.ref q.2.1:=by
   have:=ZLR
   rw[hq,Gn G] at this
   have:=ZEv
   rw[this];rfl
  exact⟨_,rfl,rQ (s:={ s with heap:=h' }) ei ci di Z4 ⟨.ref q.2.1,H,I1,ek,⟨rfl,q.2.1,k,v,rfl,F,q2⟩,J,λ b j=>(L b j).1⟩⟩
 done:=by
  intro X hP hw Z hc i pins s σ H E I L st hg
  subst hP hw Z
  obtain⟨e,hi⟩:=hg
  obtain⟨h1,ok⟩:=(show dm X.prog X.w H s.heap a Z1C from Z7b)
  obtain⟨M,O,f2,U,W,Y⟩:=L it Z8
  exact mZ ZEf st h1 hd Z1 λ h' eb=>⟨rfl,I.turned (t':=s.toks) (λ b o j e=>eb b o j e) M O U W Y⟩
 self:=λ _ _ _ _ _ st h=>JO st h
section
variable {X:Cx}{tg:Expr}
inductive ux (R:It->Hp->Prop) (x:V) (H1:Hp):Prop
 | mk:∀ a kvs,x=.ref a->((H1 a=some Zl/\∀ o,R Z4S (upd H1 a Z1C))\/∃ o,H1 a=some Z1C/\R Z4S H1)->ux R x H1
def Bw (tl:TE):TI:=λ σ H R=>tl σ H λ x H1=>ux R x H1
theorem sh {l:Expr}{tl:TE}(Y:ZIy):PI X tg l (Bw tl):=by
 intro pins s σ H R I h
 refine thn (Y pins s σ H _ I h) λ v F z=>?_
 obtain⟨x,H1,G,r1,q1⟩:=z
 obtain⟨a,kvs,rfl,q⟩:=q1
 cases r1
 obtain⟨o,H2,j,M,V⟩:∃ o H2,Inv X pins σ H2 F/\H2 a=some (.frz o (.dT kvs))/\R (Itk a o kvs) H2:=by
  rcases q with ⟨e,q⟩|⟨o,e,q⟩
  ·obtain⟨o,_,j⟩:=G.xq e
   exact⟨o,_,j,cy,q o⟩
  ·exact⟨o,H1,G,e,q⟩
 obtain⟨h1,ok⟩:=(show dm X.prog X.w H2 F.heap a Z1C from j.hok a _ M)
 obtain⟨z,y,xs,r,o1,es,ep,J,O,L,U,g5⟩:=ok
 rw[h1] at J;cases J
 have Z:es.size=kvs.length:=by rw[HP U];exact ZHQ
 refine ky y h1 O L ?_
 refine⟨F.heap.objs.size,[F.heap.objs.size],_,_,H2,rfl,j.kept (t':=F.toks) λ b o e=>ZH,sr a _ L Z,Z2z,λ b W=>?_,V⟩
 have e:b=F.heap.objs.size:=by simpa using W
 subst e
 exact j.mT Z9 (j.hok.fresh Z9)
end
theorem sY (W:kvs.length<=1000)
  (h:∀ acc,H1 acc=none->∃ F:Nat->St->List V->Hp->Prop,F 0 (σ++List.replicate k none) [] Z3H/\(∀ i j ys H2,i<=kvs.length->F i j ys H2->H2 a=some Z1C/\ys.length<=i) /\
   (∀ i b J v j ys H2,i<kvs.length->kvs[i]? = some (J,v)->H2 b=some (.tup (J.map kV))->F i j ys H2->g Zj j H2 λ z U=>tc z U λ c M=>if c=true then te z M λ v O=>O acc=some Zb/\Nx kvs.length i (F (i+1) z (ys++[v]) (upd O acc (.lst (ys++[v])))) else Nx kvs.length i (F (i+1) z ys M)) /\
   ∀ j ys H2,F kvs.length j ys H2->Q Zt H2):je Z4S k g tc te σ H1 Q:=by
 intro acc Y
 obtain⟨F,Z,pl,ps,pd⟩:=h acc Y
 refine⟨λ i m j ys H2=>m=kvs.length-i/\i<=kvs.length/\F i j ys H2,⟨kvs.length,Ze,Z8g,Z⟩,?_⟩
 rintro i m j ys H2 ⟨rfl,hi,p⟩
 obtain⟨q,L⟩:=ZGr
 by_cases G:i<kvs.length
 ·refine .inr ⟨⟨q,G⟩,GI L (dc Z1),λ x H3 y=>?_⟩
  obtain⟨e,b,J,v,rfl,y1,y2⟩:=y
  subst e
  exact ps i b J v j ys _ G y1 y2 p
 ·have e:i=kvs.length:=Z1
  subst e
  exact .inl ⟨⟨q,Z9⟩,pd j ys H2 p⟩
theorem uq {a:Addr}{o:Obj}{kvs:List (List Key×V)}{g:TG}{tb:TS}{D:Ends}{σ:St}{H:Hp}(Pv:Nat->St->Hp->Prop) (h0:ZAE) (hl:∀ i σ H,i<=kvs.length->Pv i σ H->H a=some Z1C)
  (hs:∀ i b kk v σ H,kvs[i]? = some (kk,v)->H b=some (.tup (kk.map kV))->Pv i σ H->g Zj σ H λ σ2 H2=>tb { D with nx:=Pv (i+1),ct:=Pv (i+1),bk:=ZBZ} σ2 H2) (hd:∀ σ H,Pv kvs.length σ H->D.nx σ H) :
  ∃ W:Nat->Nat->St->Hp->Prop,(∃ m,Z8c)/\∀ i m σ H,W i m σ H ->
   ((Z4S).stop i H/\D.nx σ H)\/((Z4S).go i H/\∃ N:St->Hp->Prop,(∀ σ' H',N σ' H'->∃ m',m'<m/\W (i+1) m' σ' H')/\∀ x H',(Z4S).yld i H x H'->g x σ H' λ σ2 H2=>tb { D with nx:=N,ct:=N,bk:=ZBZ} σ2 H2):=by
 refine⟨λ i m σ H=>m=kvs.length-i/\i<=kvs.length/\Pv i σ H,⟨kvs.length,Ze,Z8g,h0⟩,?_⟩
 rintro i m σ H ⟨rfl,hi,p⟩
 have q:=Z78
 by_cases hlt:i<kvs.length
 ·refine .inr ⟨⟨q,hlt⟩,Pv (i+1),λ σ' H' p'=>⟨kvs.length-(i+1),Z1,rfl,hlt,p'⟩,λ x H' y=>?_⟩
  obtain⟨e,b,kk,v,rfl,y1,y2⟩:=y
  subst e
  exact hs i b kk v σ _ y1 y2 p
 ·have e:i=kvs.length:=Z1
  subst e
  exact .inl ⟨⟨q,Z9⟩,hd σ H p⟩
section
variable {X:Cx}
inductive vr (H₀:Hp) (Q:VK) (v:V) (H1:Hp):Prop
 | mk:∀ a o kvs,H1 a=some Z1C->(∀ o' v',H₀ a≠some (.frz o' v'))->Q v (upd H1 a Zl)->vr H₀ Q v H1
def Bv (H₀:Hp) (t:TE):TE:=λ σ H Q=>t σ H λ v H1=>vr H₀ Q v H1
theorem xG (h:ZLl) (G:X.H₀=H₀:=by rfl):PE X e (Bv H₀ t):=by
 subst G
 intro pins s σ H Q I J
 refine GL (h pins s σ H _ I J) (λ v O w=>?_) λ _ _ z=>z
 obtain⟨y,H1,j,M,L⟩:=w
 obtain⟨a,o,kvs,F,n,q⟩:=L
 exact⟨y,_,j.D4 F n,M,q⟩
end
noncomputable def Ite (K:PySem.W.Frag) (l:Addr):It:=
 ⟨λ i H=>∃ xs x,SqL K H l xs/\xs[i]? = some x,λ i H v H'=>∃ p x,H p=none/\v=.ref p/\H'=upd H p Z7L/\∀ xs,SqL K H l xs->xs[i]? = some x,λ i H=>∃ xs,SqL K H l xs/\xs.length<=i⟩
theorem sV {P:Program}{w:World}{K:PySem.W.Frag}{es:Z3D}{kk:Nat}{pos:Pos}(e it l:Addr) (L:e≠it) :
  Turn P w K Z8L ZJ6 [e,it] e (λ i h=>(∃ j,IsEnum h e it i j)/\h.IsListIter it l i) where
 mem:=Ze
 obj:=λ i h st b hb=>by
  obtain⟨⟨j,F⟩,⟨o1,e1,_,d1⟩⟩:=st
  simp only[FR,FU,Ga] at hb
  rcases hb with rfl|rfl
  ·exact⟨_,F,λ v q=>by cases q⟩
  ·exact⟨_,e1,λ v q=>by rw[d1] at q;cases q⟩
 keep:=λ i h h' st k=>by
  obtain⟨⟨j,F⟩,h1⟩:=st
  exact⟨⟨j,k e Z8 _ F⟩,ZBM⟩
 item:=by
  intro X W hw V z i pins s σ H E I O st Y
  subst W hw V
  obtain⟨xs,x,U,hx⟩:=Y
  obtain⟨its,rv,p1,hz⟩:=I.list U
  obtain⟨u,hu,ru⟩:=rv.get hx
  obtain⟨⟨j,F⟩,h1⟩:=st
  have lt:∀ {c o},s.heap.get? c=some o->s.heap.objs.size≠c:=λ e=>GV ZK
  have n1:s.heap.objs.size≠e:=lt F
  have n2:s.heap.objs.size≠it:=by obtain⟨_,q,_⟩:=h1;exact lt q
  refine wpAny_pyNext_enum_item F h1 p1.isList (x:=u) (by simpa using hu) L λ h' ho M hT a3 Z=>?_
  refine⟨_,rfl,wpAny_letOwnedTupleGo_enum (s:={ s with heap:=h',toks:=s.toks+1 }) ho λ G J sb=>?_⟩
  have k2:∀ c o,c∉[e,it]->s.heap.get? c=some o->G.get? c=some o:=λ c o z q=>by
   simp only[FR,FU,Ga,Hz] at z
   exact(sb.2 c z.1).trans (Z c o z.1 z.2 q)
  have a1:dm X.prog X.w (upd H s.heap.objs.size Z7L) G s.heap.objs.size Z7L:=by
   have e5:G.get? s.heap.objs.size=some { cls:=.type "tuple",data:=.seq #[ZM8,u] }:=ZF4
   exact⟨dc Z8,[ZM8,u],ZBa,_,e5,rfl,_,rfl⟩
  refine⟨ZD,_,I.jA (t':=s.toks+1) k2 O Z9 a1,rfl,⟨_,x,I.fresh,rfl,rfl,λ zs hs=>by rw[I.ia hs U];exact hx⟩,?_,λ c z=>?_⟩
  ·exact⟨⟨_,by simpa using J⟩,M.at λ o q=>(sb.2 it L.symm).trans q⟩
  ·rw[cz]
   ·exact(O c z).1
   ·simp only[FR,FU,Ga] at z
    rcases z with rfl|rfl
    ·exact Ne.symm n1
    ·exact Ne.symm n2
 done:=by
  intro X W hw V z i pins s σ H E I O st Y
  subst W hw V
  obtain⟨xs,U,a2⟩:=Y
  obtain⟨its,rv,p1,hz⟩:=I.list U
  obtain⟨⟨j,F⟩,h1⟩:=st
  have a4:=rv.length
  refine wpAny_pyNext_enum_end (I.ok.hd z) F h1 p1.isList (G0 (by simp;lia)) λ h' Z=>⟨rfl,I.mH (t':=s.toks) (its:=[e,it]) (λ c o z q=>?_) O⟩
  simp only[FR,FU,Ga,Hz] at z
  exact Z c o z.2 q
 self:=λ _ _ _ _ _ st h=>by
  obtain⟨⟨j,F⟩,_⟩:=st
  exact Jo F h
section
variable {X:Cx}{K:PySem.W.Frag}
theorem boot_enumerate:bootBuiltins "enumerate" = some (.type "enumerate"):=by decide +kernel
inductive vH (K:PySem.W.Frag) (R:It->Hp->Prop) (vs:List V) (H1:Hp):Prop
 | mk:∀ p xs,vs=[Zs]->SqL K H1 p xs->R (Ite K p) H1->vH K R vs H1
def AK (K:PySem.W.Frag) (ta:TA):TI:=λ σ H R=>ta σ H λ vs H1=>vH K R vs H1
theorem gs {a:Expr}{ta:TA}{p pos pos':Pos}{es:Z3D}{Y:Nat}(U:Gl X "enumerate") (V:X.mg "enumerate" = none) (O:ZFW) (hs:starEach [a] X.env=[(false,Z3p)]:=by rfl) (M:X.K=K:=by rfl) :
  PI X (.Tuple es Y pos') (.Call (.Name "enumerate" p) [a] [] pos) (AK K ta):=by
 subst M
 intro pins s σ H R I h
 refine Call_ (gJ I U V boot_enumerate (HF (thn (O pos pins s σ H _ I h) λ us J w=>?_) hs rfl))
 obtain⟨vs,H1,j,r1,z⟩:=w
 obtain⟨l,xs,rfl,z,q⟩:=z
 obtain⟨u,rfl,rx⟩:=ZL7
 cases rx
 obtain⟨W,rv,p1,hz⟩:=j.list z
 refine call_enumerate_list p1.isList λ h' L z2 z3 Z=>?_
 refine Jo L ?_
 refine⟨_,_,_,Ite X.K l,H1,rfl,j.kept (t':=J.toks) Z,sV _ _ l ZMe,⟨⟨_,L⟩,z2⟩,λ b G=>?_,q⟩
 have F:J.heap.objs.size<=b:=by
  simp only[FR,FU,Ga] at G
  rcases G with rfl|rfl
  ·exact Jx _ _
  ·exact Z9
 exact j.mT F (j.hok.fresh F)
end
theorem fM {K:PySem.W.Frag}{l:Addr}{xs:Z04}{g:TG}{tb:TS}{D:Ends}{σ:St}{H:Hp}(Pv:Nat->St->Hp->Prop) (h0:ZAE) (hl:∀ i σ H,i<=xs.length->Pv i σ H->SqL K H l xs)
  (hs:∀ i x p σ H,xs[i]? = some x->H p=none->Pv i σ H->g Zs σ (upd H p Z7L) λ σ2 H2=>tb { D with nx:=Pv (i+1),ct:=Pv (i+1),bk:=ZBZ} σ2 H2) (hd:∀ σ H,Pv xs.length σ H->D.nx σ H) :
  ∃ W:Nat->Nat->St->Hp->Prop,(∃ m,Z8c)/\∀ i m σ H,W i m σ H ->
   ((ZJ6).stop i H/\D.nx σ H)\/((ZJ6).go i H/\∃ N:St->Hp->Prop,(∀ σ' H',N σ' H'->∃ m',m'<m/\W (i+1) m' σ' H')/\∀ x H',(ZJ6).yld i H x H'->g x σ H' λ σ2 H2=>tb { D with nx:=N,ct:=N,bk:=ZBZ} σ2 H2):=by
 refine⟨λ i m σ H=>m=xs.length-i/\i<=xs.length/\Pv i σ H,Z4g,?_⟩
 rintro i m σ H ⟨rfl,hi,p⟩
 have q:=Z78
 by_cases hlt:i<xs.length
 ·refine .inr ⟨⟨xs,xs[i],q,by simp[hlt]⟩,Pv (i+1),λ σ' H' p'=>⟨xs.length-(i+1),by lia,rfl,hlt,p'⟩,λ v H' y=>?_⟩
  obtain⟨a,x,na,rfl,rfl,y⟩:=y
  exact ZA5
 ·have e:i=xs.length:=Z1
  subst e
  exact Z2x
end L2
namespace PySem
section
variable {prog:Program}{w:World}{A:Around}{E:Value->Shared->Prop}{s:Shared}
end
end PySem
namespace L2
open PySem PySem.Spec PyProof.Rows
section
variable {X:Cx}
end
noncomputable def xP (e:Expr):Arguments:=match e with
 | .Lambda a _ _ _=>a
 | _=>{ posonlyargs:=[],args:=[],vararg:=none,kwonlyargs:=[],kw_defaults:=[],kwarg:=none,defaults:=[] }
noncomputable def xX (e:Expr):Expr:=match e with
 | .Lambda _ b _ _=>b
 | _=>.Name "" ⟨0,0,0,0⟩
noncomputable def uO (e:Expr):Scope:=match e with
 | .Lambda _ _ sc _=>sc
 | _=>{ kind:=.function,names:=[],isGenerator:=false,isCoroutine:=false }
structure xB (H:Hp) (qual:Str) (e:Expr) (F:List Str) (f:Addr) (ws:List V):Prop where
 ex:∃ (cl:List (Str×Addr)) (pm ctv:Value) (c':Addr) (oc:Obj) (vs:Array Value) (t:Tok),
  H f=some (.frz { cls:=.type "function",data:=.func (PySem.W.kla_fn "<lambda>" qual (xP e) (xX e) (uO e) cl pm Z6X ctv) } ZN3) /\
  H c'=some Z1k/\oc.data=.fields vs/\vs[1]? = some ZDN /\
  (∀ x c,cl.lookup x=some c->x∈F)/\(∀ x y c,cl.lookup x=some c->cl.lookup y=some c->x=y) /\
  ∀ (i:Nat) x v,F[i]? = some x->ws[i]? = some v->∃ c o u,cl.lookup x=some c/\H c=some Z5Q/\o.data=.cell Z9q/\RelV v u
 len:ws.length=F.length
theorem xB.same (k:iK H H') (c:xB H qual e F f ws):xB H' qual e F f ws:=by
 obtain⟨⟨cl,W,j,q,V,vs,t,z,G,J,L,M,O,U⟩,l⟩:=c
 exact⟨⟨cl,W,j,q,V,vs,t,k _ _ _ z,k _ _ _ G,J,L,M,O,λ i x v h1 h2=>let ⟨c,o,u,Y,Z,z3,z4⟩:=U i x v h1 h2;⟨c,o,u,Y,k _ _ _ Z,z3,z4⟩⟩,l⟩
structure qw (P:Program) (w:World) (K:PySem.W.Frag) (mg:Str->Option Value) (base:Heap) (CX:CXT) (k:Nat) (qual:Str) (e:Expr) (ps F:List Str) (sp:List V->Sp):Prop where
 len:∀ ws vs H Q E,sp ws vs H Q E->vs.length=ps.length
 run:∀ (f:Addr) (ws:List V) (A:Around) (outer:List Env) (s:Shared) (H:Hp) (us:List Value) (vs:List V) (Q:VK) (E:XK),eV k A->lM P w K mg base A outer s H->xB H qual e F f ws->Vals vs us->sp ws vs H Q E ->
  codeAny ZY A ZJt Z58 s
theorem qw.mono {P:Program}{w:World}{K:PySem.W.Frag}{mg:Str->Option Value}{base:Heap}{CX:CXT}{j k:Nat}{qual:Str}{e:Expr}{ps F:ZT}{sp:List V->Sp}(C:qw P w K mg base CX j qual e ps F sp) (h:j<=k) :
  qw P w K mg base CX k qual e ps F sp:=Z1c
section
variable {X:Cx}
end
section
variable {X:Cx}{pins:List (Addr×Obj)}{σ:St}{H:Hp}{s:Shared}{A:Around}{E:Value->Shared->Prop}
theorem nE (I:Z7) (e:H a=some Z0A) (c:Z6W) (n:dr X.K C m) (l:fs.lookup m=some v)
  (h:∀ u s',Inv X pins σ H s'->RelV v u->Q (u,[]) s'):Z74:=by
 obtain⟨mA,O,r,_,_,_⟩:=ZBu
 obtain⟨j,J,_⟩:=O.look
 exact PySem.W.method_usual I.kIn J (Iw ZJi).1 (Iw ZJi).2 n rfl (kn I e c n l h)
end
section
variable {X:Cx}{σ:St}{H:Hp}{s:Shared}
end
end L2
namespace Tim
open PySem PyProof.Rows
def Cmp (prog:Program) (w:World) (A:Around) (s:Shared) (rk:Keyed->Int) (κ:SortKind) (S:List Keyed):Prop:=
 ∀ x∈S,∀ y∈S,∀ (E:Value->Shared->Prop) (Q:Bool->Shared->Prop),Q (decide (rk x<rk y)) s->wpAny ZF A (keyLt' κ x.1 y.1) Q E s
structure SB (a₀:Array Keyed) (κ:SortKind) (P:Array (Nat×Nat×Nat)) (st:SortSt):Prop where
 perm:(Z1K).Perm a₀
 kind:kindOf st=κ
 failed:failedOf st=none
 pend:pendingOf st=P
noncomputable def R (rk:Keyed->Int) (xs:Z4U) (i:Nat):Int:=match xs[i]? with
 | some p=>rk p
 | none=>0
section
variable {rk:Keyed->Int}{κ:SortKind}{a₀:Array Keyed}{P:Array (Nat×Nat×Nat)}
theorem sI (h:i<xs.size):R rk xs i=rk xs[i]:=by unfold R;rw[getElem?_pos xs i h]
theorem iZ (h:xs[i]? = ys[j]?):R rk xs i=R rk ys j:=by unfold R;rw[h]
theorem SB.size {st:SortSt}(h:SB a₀ κ P st):(Z1K).size=a₀.size:=h.perm.size_eq
theorem SB.setArr {st:SortSt}(h:SB a₀ κ P st) {xs:Z4U}(j:xs.Perm Z1K):SB a₀ κ P (setArr st xs):=⟨j.trans h.perm,h.kind,h.failed,h.pend⟩
theorem SB.mem {st:SortSt}(h:SB a₀ κ P st) {i:Nat}(hi:i<(Z1K).size):(Z1K)[i]∈a₀.toList:=(Jn.mp h.perm).mem_iff.mp Z8
theorem kK (D:(a₀.toList.map rk).Nodup) (G:xs.Perm a₀) (hi:i<xs.size) (F:j<xs.size) (e:R rk xs i=R rk xs j):i=j:=by
 have n:(Z9N).Nodup:=((Jn.mp G).map rk).nodup_iff.mpr D
 rw[sI hi,sI F] at e
 have q:(Z9N)[i]? = some (rk xs[i]):=by rw[FP];simp[hi]
 have z:(Z9N)[j]? = some (rk xs[j]):=by rw[FP];simp[F]
 exact(Ht (ZJE).1 n).mp (by rw[q,z,e])
def Seg (rk:Keyed->Int) (xs:Z4U) (lo hi:Nat):Prop:=∀ i j,lo<=i->i<j->j<hi->R rk xs i<R rk xs j
theorem nG (hs:src<xs.size) (j:d<=src) (k) :
  R rk (bubble xs src d) k=if k=src-d then R rk xs src else if src-d<k/\k<=src then R rk xs (k-1) else R rk xs k:=by
 have e:=getElem?_bubble hs d j k
 by_cases h1:k=src-d
 ·rw[FX h1] at e ⊢;exact iZ e
 ·rw[FV h1] at e ⊢
  by_cases h2:src-d<k/\k<=src
  ·rw[FX h2] at e ⊢;exact iZ e
  ·rw[FV h2] at e ⊢;exact iZ e
theorem nK (q:j<=xs.size) (k):R rk (mirror xs i j ((j-i)/2)) k=if i<=k/\k<j then R rk xs (i+j-1-k) else R rk xs k:=by
 have e:=getElem?_mirror_all (i:=i) q k
 by_cases h:i<=k/\k<j
 ·rw[FX h] at e ⊢;exact iZ e
 ·rw[ZLz] at e ⊢;exact iZ e
end
section
variable {prog:Program}{w:World}{A:Around}{E:Value->Shared->Prop}{s:Shared}{rk:Keyed->Int}{κ:SortKind}{a₀:Array Keyed}{P:Array (Nat×Nat×Nat)}
theorem Am {st:SortSt}{x y:Keyed}{Q:Option Bool->SortSt->Prop}(C:Cmp prog w A s rk κ a₀.toList) (j:kindOf st=κ) (q:x∈a₀.toList) (z:y∈a₀.toList) (h:Q (some (decide (rk x<rk y))) st) :
  wpS ZF A E s (lt' x y) Q st:=by
 rw[lt'_eq]
 refine Z6j
 rw[j]
 exact GS (wpS_lift (IB (C x q y z _ _ ⟨rfl,Hq h⟩)))
theorem oJ {st:SortSt}{xs:Z4U}{i:Nat}{Q:Keyed->SortSt->Prop}(hi:i<xs.size) (h:Q xs[i] st):wpS ZF A E s (elem' xs i) Q st:=by
 rw[elem'_eq,getElem?_pos xs i hi]
 exact Hq h
theorem iu {st:SortSt}{i j:Nat}{Q:Option Bool->SortSt->Prop}(C:Cmp prog w A s rk κ a₀.toList) (F:SB a₀ κ P st) (hi:i<a₀.size) (G:j<a₀.size)
  (h:Q (some (decide (R rk Z1K i<R rk Z1K j))) st):wpS ZF A E s (ltAt' i j) Q st:=by
 have q:i<(Z1K).size:=by rw[F.size];exact hi
 have z:j<(Z1K).size:=by rw[F.size];exact G
 rw[ltAt'_eq]
 refine Z6j
 refine GS (oJ q (GS (oJ z ?_)))
 refine Am C F.kind (F.mem q) (F.mem z) ?_
 rw[sI q,sI z] at h
 exact h
theorem wpS_binarySort {st:SortSt}{lo n ok:Nat}{Q:Bool->SortSt->Prop}(C:Cmp prog w A s rk κ a₀.toList) (D:(a₀.toList.map rk).Nodup) (hn:lo+n<=a₀.size) (a5:ok<=n) (hB:SB a₀ κ P st) (hs:Seg rk Z1K lo (lo+ok))
  (h:∀ z,SB a₀ κ P z->Seg rk Z3I lo (lo+n)->(∀ k,(k<lo\/lo+n<=k)->(ZIn)[k]? = (Z1K)[k]?)->Q true z):wpS ZF A E s (binarySort' lo n ok) Q st:=by
 rw[binarySort'_eq]
 refine GS (JN (IP (I:=λ k c z=>c=(none,())/\SB a₀ κ P z/\Seg rk Z3I lo (lo+min k n)/\∀ k,(k<lo\/lo+n<=k)->(ZIn)[k]? = (Z1K)[k]?)
  (Q:=λ c z=>c=(none,())/\SB a₀ κ P z/\Seg rk Z3I lo (lo+n)/\∀ k,(k<lo\/lo+n<=k)->(ZIn)[k]? = (Z1K)[k]?) ?step ?fin ?init) ?post)
 case post=>
  rintro c z ⟨rfl,G,J,ho⟩
  exact Hq (h z G J ho)
 case init=>
  refine⟨rfl,hB,λ i j h0 Y hj=>?_,λ _ _=>rfl⟩
  by_cases h1:ok=0
  ·lia
  ·exact hs i j h0 Y Z1
 case fin=>
  rintro c z ⟨hc,G,J,ho⟩
  refine⟨hc,G,?_,ho⟩
  rwa [show min (max (max ok 1) n) n=n by lia] at J
 case step=>
  rintro k c z a2 a3 ⟨rfl,G,J,ho⟩
  rw[show min k n=k by lia] at J
  have O:lo+k<(ZIn).size:=by rw[G.size];lia
  refine GS (JN (IP (I:=λ x c q=>q=z/\∃ l r,c=(none,l,r)/\l<=r/\r<=k/\r-l<=k-x /\
    (∀ i,i<l->R rk Z3I (lo+i)<R rk Z3I (lo+k))/\(∀ i,r<=i->i<k->R rk Z3I (lo+k)<R rk Z3I (lo+i)))
   (Q:=λ c q=>q=z/\∃ l r,c=(none,l,r)/\l<=k /\
    (∀ i,i<l->R rk Z3I (lo+i)<R rk Z3I (lo+k))/\(∀ i,l<=i->i<k->R rk Z3I (lo+k)<R rk Z3I (lo+i))) ?istep ?ifin ?iinit) ?ipost)
  case iinit=>exact⟨rfl,0,k,rfl,Z1,Z1,Z1,λ i hi=>Z1,λ i h1 h2=>Z1⟩
  case ifin=>
   rintro c q ⟨rfl,l,r,rfl,a1,U,hm,M,L⟩
   have:l=r:=Z1
   subst this
   exact ZCZ
  case istep=>
   rintro x c q _ a6 ⟨rfl,l,r,rfl,a1,U,hm,M,L⟩
   dsimp only
   by_cases V:l >= r
   ·rw[FX V]
    have:l=r:=Z1
    subst this
    exact Hq ZCZ
   ·rw[FV V]
    refine GS (iu C G Z1 Z1 ?_)
    by_cases F:R rk Zx (lo+k)<R rk Zx (lo+(l+r)/2)
    ·simp only[F,Jq,IG]
     refine Hq ⟨rfl,l,(l+r)/2,rfl,Z1,Z1,Z1,M,λ i h1 h2=>?_⟩
     by_cases e:i=(l+r)/2
     ·rw[e];exact F
     ·exact Kd F ZBV
    ·simp only[F,J6,Ge,Hb]
     have ne:R rk Zx (lo+(l+r)/2)≠R rk Zx (lo+k):=λ e=>by
      have:=kK D G.perm Z1 O e
      lia
     have lt:R rk Zx (lo+(l+r)/2)<R rk Zx (lo+k):=Z1
     refine Hq ⟨rfl,(l+r)/2+1,r,rfl,Z1,Z1,Z1,λ i h1=>?_,L⟩
     by_cases e:i=(l+r)/2
     ·rw[e];exact lt
     ·exact Kd ZBV lt
  case ipost=>
   rintro c q ⟨rfl,l,r,rfl,a4,M,L⟩
   show wpS _ _ _ _ (do moveDown' (lo+k) (lo+l);pure (ForInStep.yield (none,()))) _ _
   rw[moveDown'_eq]
   refine GS (Kn (Hq ⟨rfl,G.setArr (bubble_perm _ _ _),?_,λ j hj=>?_⟩))
   ·rw[show min (k+1) n=k+1 by lia]
    intro i j h0 Y hj
    show R rk (bubble Zx (lo+k) (lo+k-(lo+l))) i<R rk (bubble Zx (lo+k) (lo+k-(lo+l))) j
    have Z:∀ i,lo<=i->i<lo+l->R rk Zx i<R rk Zx (lo+k):=λ i a b=>by
     have:=M (i-lo) Z1
     rwa [show lo+(i-lo)=i by lia] at this
    have W:∀ i,lo+l<=i->i<lo+k->R rk Zx (lo+k)<R rk Zx i:=λ i a b=>by
     have:=L (i-lo) Z1 Z1
     rwa [show lo+(i-lo)=i by lia] at this
    rw[nG O Z1,nG O Z1,show lo+k-(lo+k-(lo+l))=lo+l by lia]
    repeat' split
    all_goals first
     | (exfalso;lia)
     | exact Z _ Z1 Z1
     | exact W _ Z1 Z1
     | exact ZBV
   ·have e:=getElem?_bubble O (lo+k-(lo+l)) Z1 j
    show (bubble Zx (lo+k) (lo+k-(lo+l)))[j]? = _
    rw[e,ZCu,ZCu]
    exact ho j hj
end
section
variable {prog:Program}{w:World}{A:Around}{E:Value->Shared->Prop}{s:Shared}{rk:Keyed->Int}{κ:SortKind}{a₀:Array Keyed}{P:Array (Nat×Nat×Nat)}
theorem Seg.one {xs:Z4U}{lo:Nat}:Seg rk xs lo (lo+1):=λ i j a b c=>Z1
theorem Seg.grow {xs:Z4U}{lo n:Nat}(h:Seg rk xs lo (lo+n)) (h1:1<=n) (q:R rk xs (lo+n-1)<R rk xs (lo+n)):Seg rk xs lo (lo+(n+1)):=λ i j a b c=>by
 by_cases e:j=lo+n
 ·subst e
  by_cases z:i=lo+n-1
  ·rw[z];exact q
  ·exact Kd (h i (lo+n-1) a Z1 Z1) q
 ·exact h i j a b Z1
theorem wpS_countRun {st:SortSt}{lo z:Nat}{Q:Option Nat->SortSt->Prop}(C:Cmp prog w A s rk κ a₀.toList) (D:(a₀.toList.map rk).Nodup) (h1:1<=z) (hn:lo+z<=a₀.size) (M:SB a₀ κ P st)
  (h:∀ n q,SB a₀ κ P q->1<=n->n<=z->Seg rk Zx lo (lo+n)->(∀ k,(k<lo\/lo+z<=k)->(arrOf q)[k]? = (Z1K)[k]?)->Q (some n) q):wpS ZF A E s (countRun' lo z) Q st:=by
 have ne:∀ {q:SortSt},SB a₀ κ P q->∀ i j,i<j->j<a₀.size->¬ R rk Zx j<R rk Zx i->R rk Zx i<R rk Zx j:=λ G i j a b c=>by
  have:R rk ZEb i≠R rk ZEb j:=λ e=>by
   have:=kK D G.perm (by rw[G.size];lia) (by rw[G.size];lia) e
   lia
  lia
 have a8:∀ {q:SortSt},SB a₀ κ P q->∀ i j,i<j->j<a₀.size->¬ R rk Zx i<R rk Zx j->R rk Zx j<R rk Zx i:=λ G i j a b c=>by
  have:R rk ZEb i≠R rk ZEb j:=λ e=>by
   have:=kK D G.perm (by rw[G.size];lia) (by rw[G.size];lia) e
   lia
  lia
 rw[countRun'_eq]
 refine GS (JN (IP (I:=λ x c q=>q=st/\c=(none,x)/\1<=x/\Seg rk Z1K lo (lo+x))
  (Q:=λ c q=>q=st/\∃ n,c=(none,n)/\1<=n/\n<=z/\Seg rk Z1K lo (lo+n)/\(n=z\/R rk Z1K (lo+n)<R rk Z1K (lo+n-1))) ?step ?fin ?init) ?post)
 case init=>exact⟨rfl,rfl,Z9,Seg.one⟩
 case fin=>
  rintro c q ⟨rfl,rfl,a,b⟩
  rw[show max 1 z=z by lia] at b ⊢
  exact⟨rfl,z,rfl,h1,Z9,b,Z0N⟩
 case step=>
  rintro x c q U a3 ⟨rfl,rfl,_,L⟩
  dsimp only
  refine Z47
  by_cases J:R rk Zx (lo+x)<R rk Zx (lo+x-1)
  ·simp only[J,Jq,IG]
   exact Hq ⟨rfl,x,rfl,U,Z1,L,.inr J⟩
  ·simp only[J,J6,Ge,Hb]
   exact Hq ⟨rfl,rfl,Z1,L.grow U (ne M _ _ Z1 Z1 J)⟩
 case post=>
  rintro c q ⟨rfl,n,rfl,Y,Z,L,a7⟩
  dsimp only
  by_cases e:n=z
  ·rw[FX (by simp[e])]
   exact Z98
  rw[FV (by simp[e])]
  have a4:=a7.resolve_left e
  by_cases g1:n>1
  ·rw[FX g1]
   refine Z47
   have:R rk Zx lo<R rk Zx (lo+n-1):=L _ _ Z9 Z1 Z1
   simp only[this,Jq,IG]
   exact Z98
  rw[FV g1]
  have n1:n=1:=Z1
  subst n1
  refine ZDX
  have h2:2<=z:=Z1
  refine GS (JN (IP (I:=λ x c F=>F=q/\c=(none,x,0)/\∀ i j,lo<=i->i<j->j<lo+x->R rk Zx j<R rk Zx i)
   (Q:=λ c F=>F=q/\∃ n,c=(none,n,0)/\2<=n/\n<=z/\∀ i j,lo<=i->i<j->j<lo+n->R rk Zx j<R rk Zx i) ?step2 ?fin2 ?init2) ?post2)
  case init2=>
   refine Z8z
   have e1:i=lo:=Z1
   have e2:j=lo+1:=Z1
   rw[e1,e2]
   simpa using a4
  case fin2=>
   rintro c F ⟨rfl,rfl,b⟩
   rw[show max (1+1) z=z by lia] at b ⊢
   exact⟨rfl,z,rfl,h2,Z9,b⟩
  case step2=>
   rintro x c F U a3 ⟨rfl,rfl,hf⟩
   dsimp only
   refine Z47
   by_cases J:R rk Z6P (lo+x)<R rk Z6P (lo+x-1)
   ·simp only[J,Jq,IG]
    rw[ZCu]
    refine Hq Z8z
    by_cases e:j=lo+x
    ·subst e
     by_cases e2:i=lo+x-1
     ·rw[e2];exact J
     ·exact Kd J (hf i (lo+x-1) a Z1 Z1)
    ·exact hf i j a b Z1
   ·simp only[J,J6,Ge,Hb]
    refine Z47
    have:=ne M _ _ (show lo+x-1<lo+x by lia) Z1 J
    simp only[this,Jq,IG]
    exact Hq ⟨rfl,x,rfl,Z1,Z1,hf⟩
  case post2=>
   rintro c F ⟨rfl,n,rfl,Y,Z,hf⟩
   dsimp only
   rw[ZCu,reverseSlice'_eq]
   have hz:lo+n<=(Z6P).size:=by rw[M.size];lia
   have O:SB a₀ κ P (setArr F (mirror Z6P lo (lo+n) ((lo+n-lo)/2))):=M.setArr (mirror_perm _ _ _ _)
   have a2:Seg rk (mirror Z6P lo (lo+n) ((lo+n-lo)/2)) lo (lo+n):=λ i j a b c=>by
    rw[nK hz,nK hz,Z9V,Z9V]
    exact hf _ _ Z1 Z1 Z1
   have ho:∀ k,(k<lo\/lo+z<=k)->(mirror Z6P lo (lo+n) ((lo+n-lo)/2))[k]? = (Z6P)[k]?:=λ k hk=>by
    rw[getElem?_mirror_all hz,ZCu]
   refine GS (Kn ?_)
   have W:Seg rk (arrOf (setArr F (mirror Z6P lo (lo+n) ((lo+n-lo)/2)))) lo (lo+n):=a2
   have a1:∀ k,(k<lo\/lo+z<=k)->(arrOf (setArr F (mirror Z6P lo (lo+n) ((lo+n-lo)/2))))[k]? = (Z6P)[k]?:=ho
   clear a2 ho
   generalize setArr F (mirror (arrOf F) lo (lo+n) ((lo+n-lo)/2))=V at O W a1 ⊢
   refine GS (JN (IP (I:=λ x c q=>q=V/\c=(none,x)/\Seg rk (arrOf V) lo (lo+x))
    (Q:=λ c q=>q=V/\∃ m,c=(none,m)/\1<=m/\m<=z/\Seg rk (arrOf V) lo (lo+m)) ?step3 ?fin3 ?init3) ?post3)
   case init3=>exact⟨rfl,rfl,W⟩
   case fin3=>
    rintro c q ⟨rfl,rfl,b⟩
    rw[show max n z=z by lia] at b ⊢
    exact⟨rfl,z,rfl,h1,Z9,b⟩
   case step3=>
    rintro x c q U a3 ⟨rfl,rfl,L⟩
    dsimp only
    refine GS (iu C O Z1 Z1 ?_)
    by_cases J:R rk Zx (lo+x)<R rk Zx (lo+x-1)
    ·simp only[J,Jq,IG]
     exact Hq ⟨rfl,x,rfl,Z1,Z1,L⟩
    ·simp only[J,J6,Ge,Hb]
     exact Hq ⟨rfl,rfl,L.grow Z1 (ne O _ _ Z1 Z1 J)⟩
   case post3=>
    rintro c q ⟨rfl,m,rfl,a5,a6,L⟩
    exact Hq (h m q O a5 a6 L a1)
end
abbrev Asc (rk:Keyed->Int) (l:List Keyed):Prop:=l.Pairwise λ x y=>rk x<rk y
section
variable {rk:Keyed->Int}
theorem xt (h:Seg rk xs 0 xs.size):Asc rk xs.toList:=by
 unfold Asc
 rw[Iu]
 intro i j hi z q
 have:=h i j Z8g q (by simpa using z)
 rw[sI (by simpa using hi),sI (by simpa using z)] at this
 simpa using this
end
section
variable {prog:Program}{w:World}{A:Around}{E:Value->Shared->Prop}{s:Shared}{rk:Keyed->Int}{κ:SortKind}{a₀:Array Keyed}
def One (rk:Keyed->Int) (κ:SortKind) (a₀:Z4U) (st:SortSt):Prop:=SB a₀ κ #[(0,a₀.size,0)] st/\Seg rk Z1K 0 a₀.size
theorem lE {st:SortSt}{Q:Unit->SortSt->Prop}(C:Cmp prog w A s rk κ a₀.toList) (D:(a₀.toList.map rk).Nodup) (hB:SB a₀ κ #[] st) (h2:2<=a₀.size) (h128:a₀.size<64)
  (h:∀ st',(Z82).Perm a₀->failedOf st'=none->Seg rk Z82 0 a₀.size->Q () st'):wpS ZF A E s sortRuns' Q st:=by
 rw[sortRuns'_eq]
 refine Z6j
 dsimp only
 have hmr:minRun' a₀.size a₀.size 0=a₀.size:=by
  obtain⟨f,hf⟩:∃ f,a₀.size=f+2:=⟨a₀.size-2,Z1⟩
  rw[hf,minRun'_succ,Z9V]
 simp only[hB.size,hmr]
 refine GS (JN (IP
  (I:=λ x c st'=>(x=0/\c=(none,0)/\SB a₀ κ #[] st')\/(1<=x/\c=(none,a₀.size)/\One rk κ a₀ st'))
  (Q:=λ c st'=>c=(none,a₀.size)/\One rk κ a₀ st') ?step ?fin (.inl ⟨rfl,rfl,hB⟩)) ?post)
 case fin=>
  rintro c st' (⟨hx,_,_⟩|⟨_,hc,hD⟩)
  ·lia
  ·exact⟨hc,hD⟩
 case step=>
  rintro x c st' _ hx (⟨rfl,rfl,hB'⟩|⟨hx1,rfl,hD⟩)
  ·dsimp only
   rw[ZCu]
   simp only[Nat.sub_zero,Iq]
   refine GS (wpS_countRun C D Z1 Z1 hB' λ m st2 hB2 hm1 hm2 hs2 ho2=>?_)
   dsimp only
   rw[Iq] at hs2
   have pe:∀ (n:Nat) (st3:SortSt),SB a₀ κ #[] st3->SB a₀ κ #[(0,n,0)] (setPending st3 ((ZCg).push (0,n,0))):=λ n st3 b3=>⟨b3.perm,b3.kind,b3.failed,by show (ZCg).push _=_;rw[b3.pend];rfl⟩
   by_cases hlt:m<a₀.size
   ·rw[FX hlt]
    refine ZDX
    refine GS (wpS_binarySort C D Z1 Z1 hB2 (by rw[Iq];exact hs2) λ st3 hB3 hs3 ho3=>?_)
    rw[Iq] at hs3
    simp only[Ij,Ge,Hb]
    refine Z6j
    have hb:(ZCg).back? = none:=by rw[hB3.pend];rfl
    rw[hb]
    dsimp only
    refine ZJA
    rw[Nat.min_self] at hs3 ⊢
    exact .inr ⟨Z9,rfl,pe _ st3 hB3,hs3⟩
   ·rw[FV hlt]
    refine Z6j
    have hb:(pendingOf st2).back? = none:=by rw[hB2.pend];rfl
    rw[hb]
    dsimp only
    refine ZJA
    have e:m=a₀.size:=Z1
    subst e
    exact .inr ⟨Z9,rfl,pe _ st2 hB2,hs2⟩
  ·dsimp only
   rw[FX Z9]
   exact Hq ⟨rfl,hD⟩
 case post=>
  rintro c st' ⟨rfl,hD⟩
  dsimp only
  refine GS (JN (IP (I:=λ x c st''=>c=(none,())/\One rk κ a₀ st'') (Q:=λ c st''=>c=(none,())/\One rk κ a₀ st'') ?_ (λ _ _ hh=>hh) ⟨rfl,hD⟩) ?_)
  ·rintro x c st'' _ _ ⟨rfl,h⟩
   refine Z6j
   rw[FX (by rw[h.1.pend];exact Nat.le_refl 1)]
   exact Hq ⟨rfl,h⟩
  ·rintro c st'' ⟨rfl,h'⟩
   exact Hq (h _ h'.1.perm h'.1.failed h'.2)
end
open PySem PyProof.Rows PySem.W
def Tri (h:Heap) (v:Value) (x y z:Int):Prop:=∃ b o n t1 t2 t3,v=.ref b/\h.get? b=some o/\o.cls=.type "tuple" /\ o.data=.seq #[.int x t1,.int y t2,.int z t3] n/\0<=y/\y<1000/\0<=z/\z<1000
noncomputable def fA (x y z:Int):Int:=x*1000000+y*1000+z
noncomputable def eP (h:Heap) (v:Value):Int:=match v with
 | .ref b=>match h.get? b with
  | some o=>match o.data with
   | .seq xs _=>match xs.toList with
    | [.int x _,.int y _,.int z _]=>fA x y z
    | _=>0
   | _=>0
  | none=>0
 | _=>0
theorem Tri.rk (t:ZCk):eP h v=fA x y z:=by
 obtain⟨b,o,n,j,q,F,rfl,e,_,d,_⟩:=t
 unfold eP
 simp only[e,d]
theorem Tri.keeps (k:∀ b o,o.cls=.type "tuple" -> h.get? b=some o->h'.get? b=some o) (t:ZCk):Tri h' v x y z:=by
 obtain⟨b,o,n,j,q,F,rfl,e,c,r⟩:=t
 exact⟨b,o,n,j,q,F,rfl,k b o c e,c,r⟩
section
variable {prog:Program}{w:World}{A:Around}{E:Value->Shared->Prop}{s:Shared}
theorem lt3 (t:Z37) (t':ZDz) (h:Q (decide (fA x y z<fA x' y' z')) s):wpAny ZF A (keyLt' Z90 v u) Q E s:=by
 obtain⟨b,o,n,M,O,U,rfl,e,c,d,Z,q2,q3,q4⟩:=t
 obtain⟨V,o',Y,j,q,F,rfl,L,W,J,r1,r2,r3,r4⟩:=t'
 unfold fA at h
 refine kat_lt e d L J ?_
 show KatLex prog w A true false Q [(.int x M,.int x' j),(.int y O,.int y' q),(.int z U,.int z' F)] 0 s
 refine Z9P
 by_cases h1:x=x'
 ·subst h1
  rw[show (x == x)=true by simp]
  refine kat_yes Z9P
  by_cases h2:y=y'
  ·subst h2
   rw[show (y == y)=true by simp]
   refine kat_yes Z9P
   by_cases G:z=z'
   ·subst G
    rw[show (z == z)=true by simp]
    refine kat_yes (kat_nil ?_)
    rwa [show decide (x*1000000+y*1000+z<x*1000000+y*1000+z)=false by simp] at h
   ·rw[show (z == z')=false by simpa using G]
    refine Z8M
    show Q _ s
    rwa [show decide (x*1000000+y*1000+z<x*1000000+y*1000+z')=decide (z<z') by rw[HW];lia] at h
  ·rw[show (y == y')=false by simpa using h2]
   refine Z8M
   show Q _ s
   rwa [show decide (x*1000000+y*1000+z<x*1000000+y'*1000+z')=decide (y<y') by rw[HW];lia] at h
 ·rw[show (x == x')=false by simpa using h1]
  refine kat_no (oneLt_int ?_)
  rwa [show decide (x*1000000+y*1000+z<x'*1000000+y'*1000+z')=decide (x<x') by rw[HW];lia] at h
theorem rm:∀ {vs:List Value},(∀ v∈vs,∃ x y z,ZCk)->∃ fs,KatTups h vs fs/\fs.length=vs.length/\∀ f∈fs,∃ x t,f=Value.int x t
 | [],_=>⟨[],.nil,rfl,λ _ h=>by cases h⟩
 | v::vs,t=>by
  obtain⟨fs,k,l,a⟩:=rm λ v q=>t v (FW _ q)
  obtain⟨x,y,z,b,o,n,F,G,J,rfl,e,c,d,_⟩:=t v FZ
  refine⟨.int x F::fs,.cons e c d rfl k,by rw[GF,GF,l],λ f j=>?_⟩
  rcases FR.mp j with rfl|j
  ·exact⟨_,_,rfl⟩
  ·exact a f j
theorem EB {vs:Zh}{Q:SortKind->Shared->Prop}(h2:0<vs.length) (t:∀ v∈vs,∃ x y z,Z37) (h:Q Z90 s):wpAny ZF A (keyKind' vs.toArray) Q E s:=by
 obtain⟨fs,k,l,a⟩:=rm t
 refine kat_kind (T:=.type "int") k Z1 (λ v j=>?_) rfl h
 obtain⟨x,t,rfl⟩:=a v j
 exact Looks.of_pure rfl
theorem gR (vs):(Z6e).toList=vs.zip vs:=by
 unfold pairsOf;simp
theorem mM (f:Value->Int) (vs:Zh):(vs.zip vs).map (λ p:Keyed=>f p.1)=vs.map f:=by
 induction vs with
 | nil=>rfl
 | cons v vs j=>simp only[JU,Gq,j]
theorem mS {vs:Zh}{p:Keyed}(h:p∈vs.zip vs):p.1=p.2/\p.1∈vs:=by
 induction vs with
 | nil=>cases h
 | cons v vs j=>
  rw[JU] at h
  rcases FR.mp h with rfl|h
  ·exact⟨rfl,FZ⟩
  ·exact⟨(j h).1,FW _ (j h).2⟩
theorem jW {a:Addr}{vs:Zh}{n:Nat}{P:PySem.Fin->Shared->Prop}(ho:s.heap.get? a=some (seqObj "list" vs.toArray n)) (t:∀ v∈vs,∃ x y z,Z37) (hd:ZB9) (h128:vs.length<64)
  (h:∀ out:Array Value,out.toList.Perm vs->out.toList.Pairwise (λ u v=>eP s.heap u<eP s.heap v)->P (.done (.ret .none)) { s with heap:=sortedHeap s.heap a vs out }) :
  wpAny ZF A (Builtin.«list.sort» ⟨ZKR,[]⟩) P E s:=by
 rw[list_sort_plain]
 have ha:a<s.heap.objs.size:=ZAN
 refine FI (listItems_at ho rfl ?_)
 refine FI (Ku ho rfl ?_ (by rw[F7,HQ];lia) Z8g)
 obtain⟨e1,ho1⟩:∃ e1,(s.heap.update a (Obj.mapSeq λ _=>#[])).get? a=some (seqObj "list" #[] e1):=⟨_,get?_update_seq ho (λ _=>#[])⟩
 refine FI (seqEpoch_at ho1 rfl ?_)
 refine FI (wpAny_newTuple ?_ (by show vs.length<=_;rw[HQ];lia))
 refine FI (Js ?_ Z8g)
 refine Gp ?_
 have ho6:(((s.heap.update a (Obj.mapSeq λ _=>#[])).push (seqObj "tuple" vs.toArray 0)).push (seqObj "list" #[] 0)).get? a=some (seqObj "list" #[] e1):=by
  rw[Heap.get?_push_ne _ _ _ (by rw[size_push',Heap.size_update];exact F1 (GY ha)),Heap.get?_push_ne _ _ _ (by rw[Heap.size_update];exact F1 ha)]
  exact ho1
 have kp:∀ b o,o.cls=.type "tuple" -> s.heap.get? b=some o->(((s.heap.update a (Obj.mapSeq λ _=>#[])).push (seqObj "tuple" vs.toArray 0)).push (seqObj "list" #[] 0)).get? b=some o:=λ b o c e=>by
  have hb:b≠a:=λ z=>by rw[z,ho] at e;cases e;exact absurd (show Value.type "list" = Value.type "tuple" from c) Z4
  exact Heap.get?_push_of_some _ (Heap.get?_push_of_some _ ((Heap.get?_update_ne _ _ _ _ hb).trans e))
 show wpAny ZF A _ P E { s with heap:=((s.heap.update a (Obj.mapSeq λ _=>#[])).push (seqObj "tuple" vs.toArray 0)).push (seqObj "list" #[] 0) }
 dsimp only
 have hsz:vs.toArray.size=vs.length:=Ze
 by_cases h2:vs.toArray.size<2
 ·rw[FX h2,FX h2]
  refine Z6v
  rw[StateT.run_pure]
  refine Z6v
  dsimp only
  refine ZAQ
  refine FI (Ku ho6 rfl ?_ Z8g (hsz2:=by rw[IV];show (Z6e).size<=_;rw[JZ,HQ];lia))
  simp only[J8,Ge,Hb]
  have e:((arrOf (SortSt.mk' general' Z2T #[] 7 none)).map (·.2))=vs.toArray:=by
   show (Z2T).map (·.2)=_
   apply Array.toList_inj.mp
   rw[Ki]
   simp
   exact ZFZ
  refine Z5h
  show P _ { s with heap:=sortedHeap s.heap a vs ((arrOf (SortSt.mk' general' Z2T #[] 7 none)).map (·.2)) }
  rw[e]
  refine h vs.toArray Z3F ?_
  match vs,hsz,h2 with
  | [],_,_=>exact .nil
  | [_],_,_=>exact Jy _ _
  | _::_::_,_,h2=>exact absurd h2 Z8
 ·rw[FV h2,FV h2]
  have t6:∀ v∈vs,∃ x y z,Tri (((s.heap.update a (Obj.mapSeq λ _=>#[])).push (seqObj "tuple" vs.toArray 0)).push (seqObj "list" #[] 0)) v x y z:=λ v hv=>let ⟨x,y,z,q⟩:=t v hv;⟨x,y,z,ZGq⟩
  have mem0:∀ p∈(pairsOf vs).toList,p.1=p.2/\p.1∈vs:=λ p hp=>by rw[gR] at hp;exact mS hp
  refine FI (EB Z1 t6 ?_)
  refine FI (GL (lE (rk:=λ p=>ZLS) (κ:=Z90) (a₀:=Z6e) (st:=SortSt.mk' Z90 Z2T #[] 7 none)
   (Q:=λ _ st'=>(Z82).Perm (Z6e)/\failedOf st'=none/\Seg (λ p=>ZLS) Z82 0 (Z6e).size)
   (λ x hx y hy E' Q' q=>?_) ?_ ⟨Array.Perm.refl _,rfl,rfl,rfl⟩ (by rw[JZ];lia) (by rw[JZ];exact h128) λ st' a1 a2 a3=>⟨a1,a2,a3⟩) ?_ λ _ _ e=>e)
  ·obtain⟨x1,x2,x3,tx⟩:=t x.1 (mem0 x hx).2
   obtain⟨y1,y2,y3,ty⟩:=t y.1 (mem0 y hy).2
   refine lt3 (tx.keeps kp) (ty.keeps kp) ?_
   have q':Q' (decide (eP s.heap x.1<eP s.heap y.1)) _:=q
   rw[tx.rk,ty.rk] at q'
   exact q'
  ·rw[gR,mM (eP s.heap)];exact hd
  ·rintro⟨⟨⟩,st'⟩ s' ⟨rfl,hp,hf,hs⟩
   dsimp only
   have hpl:=Jn.mp hp
   refine ZAQ
   refine FI (Ku ho6 rfl ?_ Z8g (hsz2:=by refine Gd (Ka ((IV ..).trans (hp.size_eq.trans (JZ _)))) ?_;rw[HQ];lia))
   rw[hf]
   simp only[J8,Ge,Hb]
   refine Z5h
   show P _ { s with heap:=sortedHeap s.heap a vs ((Z82).map (·.2)) }
   refine h _ ?_ ?_
   ·rw[Ki]
    refine(hpl.map _).trans ?_
    rw[gR,ZFZ]
   ·rw[Ki,Hj]
    have z:(Z82).size=(Z6e).size:=hp.size_eq
    rw[<- z] at hs
    refine(xt hs).imp_of_mem λ{p q} hp' hq' lt=>?_
    rw[<- (mem0 p (hpl.mem_iff.mp hp')).1,<- (mem0 q (hpl.mem_iff.mp hq')).1]
    exact lt
theorem uw {Q:PySem.Fin->Shared->Prop}{vs:Zh}(t:∀ v∈vs,∃ x y z,Z37) (hd:ZB9) (h128:vs.length<64)
  (h:∀ (out:Array Value) h' c,(∀ b o,s.heap.get? b=some o->h'.get? b=some o)->h'.get? s.heap.objs.size=some { cls:=.type "list",dict:=none,data:=ZCF,slots:=#[] }->out.toList.Perm vs->out.toList.Pairwise (λ u v=>eP s.heap u<eP s.heap v) ->
   Q ZH_ { s with heap:=h' }) :
  wpAny ZF A (do let l <- newList vs;let _ <- holding [l] (call (.builtin "list.sort") [l] []);ret l) Q E s:=by
 refine FI (Js ?_ (by rw[HQ];lia))
 have hoL:(s.heap.push (seqObj "list" vs.toArray 0)).get? s.heap.objs.size=some (seqObj "list" vs.toArray 0):=ZG
 have kp:∀ b o,o.cls=.type "tuple" -> s.heap.get? b=some o->(s.heap.push (seqObj "list" vs.toArray 0)).get? b=some o:=λ b o _ e=>ZH
 have ers:∀ v∈vs,eP (s.heap.push (seqObj "list" vs.toArray 0)) v=eP s.heap v:=λ v hv=>by
  obtain⟨x,y,z,q⟩:=t v hv
  rw[(ZGq).rk,q.rk]
 refine FI (Gp (Hf slot_list_sort ZIG entry_list_sort (jW hoL (λ v hv=>let ⟨x,y,z,q⟩:=t v hv;⟨x,y,z,ZGq⟩) ?_ h128 λ out a1 a2=>Z3b) (args_list_sort _)))
 ·show (vs.map (eP (s.heap.push (seqObj "list" vs.toArray 0)))).Nodup
  rw[GD ers];exact hd
 ·obtain⟨e,he⟩:=sortedHeap_at (out:=out) hoL
  refine FN (h out _ e ZKn he a1 ?_)
  ·have lt:=Z3e
   show (sortedHeap (s.heap.push (seqObj "list" vs.toArray 0)) s.heap.objs.size vs out).get? b=some o
   rw[sortedHeap_old (F1 lt) (by rw[Heap.size_push];exact GY lt)]
   exact Zy
  ·refine a2.imp_of_mem λ{p q} hp hq lt=>?_
   rw[<- ers p (a1.mem_iff.mp hp),<- ers q (a1.mem_iff.mp hq)];exact lt
theorem kR {Q:Value->Shared->Prop}{x:Value}
  (hc:wpAny ZF A.in1 (collect x) (λ vs s1=>(∀ v∈vs,∃ x y z,Tri s1.heap v x y z)/\(vs.map (eP s1.heap)).Nodup/\vs.length<64 /\
   ∀ (out:Array Value) h' c,(∀ b o,s1.heap.get? b=some o->h'.get? b=some o)->h'.get? s1.heap.objs.size=some { cls:=.type "list",dict:=none,data:=ZCF,slots:=#[] }->out.toList.Perm vs->out.toList.Pairwise (λ u v=>eP s1.heap u<eP s1.heap v) ->
    Q ZCY { s1 with heap:=h' }) E s) :
  wpAny ZF A (call (.builtin "sorted") [x]) Q E s:=by
 refine Calls.call_function_entry kind_sorted plain_sorted entry_sorted (args_sorted1 _) ?_
 unfold Builtin.«sorted»
 refine FI (m:=checkCount "sorted" 1 1 _) Zi
 refine Z6B
 obtain⟨t,hd,h128,fin⟩:=h1
 exact uw t hd h128 λ out h' c a b d e=>⟨_,rfl,fin out h' c a b d e⟩
end
end Tim
namespace L2
open PySem PySem.Spec PyProof.Rows
noncomputable def rk3 (H:Hp) (v:V):Int:=match v with
 | .ref b=>match H b with
  | some (.tup [.int x,.int y,.int z])=>Tim.fA x y z
  | _=>0
 | _=>0
def Nm (H:Hp) (v:V):Prop:=∃ b x y z,v=.ref b/\H b=some ZHU/\0<=y/\y<1000/\0<=z/\z<1000
section
variable {X:Cx}
theorem qa (L:Z0c) (e:H b=some ZHU) (q:0<=y/\y<1000/\0<=z/\z<1000):Tim.Tri h Zj x y z:=by
 obtain⟨_,J,r,o,G,j,n,F⟩:=L b _ e
 cases r with
 | cons M r=>
 cases r with
 | cons O r=>
 cases r with
 | cons U r=>
 cases r
 obtain⟨V,rfl⟩:=M
 obtain⟨W,rfl⟩:=O
 obtain⟨Y,rfl⟩:=U
 exact⟨b,o,n,V,W,Y,rfl,G,j,F,q.1,q.2.1,q.2.2.1,q.2.2.2⟩
theorem r9:∀ {j:List V}{its:List Value},(∀ v∈j,Nm H v)->Vals j its->∃ bs:List Addr,j=bs.map V.ref/\its=bs.map Value.ref
 | _,_,_,.nil=>⟨[],rfl,rfl⟩
 | v::j,u::its,n,.cons r t=>by
  obtain⟨bs,q,z⟩:=r9 (λ v F=>n v (FW _ F)) t
  obtain⟨b,_,_,_,rfl,_⟩:=n v FZ
  cases r
  exact⟨b::bs,by rw[q];rfl,by rw[z];rfl⟩
theorem mi (h:out.Perm ZGf):∃ j:List Addr,out=j.map Value.ref/\j.Perm bs:=by
 refine⟨out.map λ v=>match v with | .ref a=>a|_=>0,?_,?_⟩
 ·rw[GJ]
  symm
  refine(GD λ v q=>?_).trans ZJl
  obtain⟨b,_,rfl⟩:=F2.mp (h.mem_iff.mp q)
  rfl
 ·refine(h.map _).trans ?_
  rw[GJ]
  exact .of_eq ((GD λ _ _=>rfl).trans ZJl)
theorem jo:∀ (bs:List Addr),Vals ZKu ZGf
 | []=>.nil
 | _::bs=>.cons rfl (jo bs)
inductive v7 (K:PySem.W.Frag) (xs:List V) (H:Hp) (Q:VK):Prop
 | mk:∀ p ls,xs=[.ref p]->SqL K H p ls->ls.length<64->(∀ v∈ls,Nm H v)->(ls.map (rk3 H)).Nodup->(∀ l ls',H l=none->ls'.Perm ls->ls'.Pairwise (λ u v=>rk3 H u<rk3 H v)->Q Zg ZF3)->v7 K xs H Q
theorem qt {K:PySem.W.Frag}(hK:X.K=K:=by rfl):eG X (.builtin "sorted") (v7 K):=by
 subst hK
 intro pins s σ H xs us Q I r h
 obtain⟨p,ls,rfl,hq,M,nm,nd,q⟩:=h
 obtain⟨u,rfl,rx⟩:=Z4x
 cases rx
 obtain⟨a2,r',pl,hz⟩:=ZEB
 obtain⟨J,rfl,rfl⟩:=r9 nm r'
 have Z:∀ b o,s.heap.get? b=some o->((s.heap.push (seqObj "list" #[] 0)).update s.heap.objs.size (Obj.mapSeq (· ++ (Z4O).toArray))).get? b=some o:=λ b o e=>
  (Heap.get?_update_other _ _ (GV ZK)).trans ZH
 have U:Inv X pins σ H { s with heap:=(s.heap.push (seqObj "list" #[] 0)).update s.heap.objs.size (Obj.mapSeq (· ++ (Z4O).toArray)) }:=I.kept (t':=s.toks) Z
 have j:∀ b∈J,Tim.eP ((s.heap.push (seqObj "list" #[] 0)).update s.heap.objs.size (Obj.mapSeq (· ++ (Z4O).toArray))) (Zj)=rk3 H (Zj)/\∃ x y z,Tim.Tri ((s.heap.push (seqObj "list" #[] 0)).update s.heap.objs.size (Obj.mapSeq (· ++ (Z4O).toArray))) Zj x y z:=λ b G=>by
  obtain⟨b',x,y,z,e,L,qq⟩:=nm _ (F4 G)
  cases e
  have T:=qa U.hok L qq
  exact⟨by rw[T.rk];unfold rk3;simp only[L],x,y,z,T⟩
 refine Tim.kR (collect_list pl.isList ⟨λ v hv=>?_,?_,by simpa using M,λ a1 h' c Y e pm so=>?_⟩ (by rw[HQ];simp at M ⊢;lia))
 ·obtain⟨b,G,rfl⟩:=F2.mp hv
  exact(j b G).2
 ·rw[GJ] at nd ⊢
  exact(GD (f:=Tim.eP ((s.heap.push (seqObj "list" #[] 0)).update s.heap.objs.size (Obj.mapSeq (· ++ (Z4O).toArray))) ∘ Value.ref) (g:=rk3 H ∘ V.ref) λ b G=>(j b G).1) ▸ nd
 ·obtain⟨O,L,F⟩:=mi pm
  have W:(ZFX).length<=sizeLine:=by
   rw[FO,F.length_eq];simpa using hz
  refine⟨.ref _,_,U.laid (t':=s.toks) Y Z9 (show dm X.prog X.w _ h' _ (.lst ZFX) from ⟨W,a1.toList,c,by rw[L];exact jo O,by rw[e]⟩),rfl,q _ ZFX U.fresh (F.map _) ?_⟩
  rw[L,Hj] at so
  rw[Hj]
  refine so.imp_of_mem λ{b c} G hc lt=>?_
  rw[<- (j b (F.mem_iff.mp G)).1,<- (j c (F.mem_iff.mp hc)).1];exact lt
end
end L2
namespace Tim
open PySem PyProof.Rows PySem.W
theorem Walks.xm (U:A.handled=none) (it d) (L:d≠it) (M:od.data=.dict es ep) :
  Walks prog w A it [it,d] [it] es.size (λ i v=>∃ e,es[i]? = some e/\v=e.key) (λ i h=>h.IsKeyIter it d i es.size ep/\h.get? d=some od) where
 sub:=λ b j=>by simp at j;simp[j]
 frame:=λ _ _ _ st O=>⟨st.1.at λ o e=>O it Z8 o e,O d Ze _ st.2⟩
 item:=λ i s Q E hi st q=>by
  refine kD st.1 st.2 M hi λ h' F G=>?_
  exact q _ h' s.toks ⟨_,Gn hi,rfl⟩ ⟨F,(G.2 d L).trans st.2⟩ λ b o j e=>(G.2 b (λ z=>j (by simp[z]))).trans e
 done:=λ s Q E st q=>mZ U st.1 st.2 M Z9 λ h' J=>q h' s.toks λ b o j e=>J b o (λ z=>j (by simp[z])) e
 self:=λ _ _ _ _ st q=>JO st.1 q
section
variable {prog:Program}{w:World}{A:Around}{E:Value->Shared->Prop}{s:Shared}
theorem xZ (M:A.units<cLine) (t:Z37) (t':ZDz) (h:Q (.bool (decide (fA x y z<fA x' y' z'))) s):wpAny ZF A (richCompare .Lt v u) Q E s:=by
 obtain⟨b,o,n,t1,t2,t3,rfl,e,c,d,Y,Z,q3,q4⟩:=t
 obtain⟨J,o',W,O,U,V,rfl,j,q,L,r1,r2,r3,r4⟩:=t'
 unfold fA at h
 refine wpAny_richCompare_same_room (op:=.Lt) ⟨o,e,c⟩ ⟨o',j,q⟩ F.slot_tuple_lt (Hf F.slot_tuple_lt ⟨o,e,c⟩ F.entry_tuple_lt ?_ (F.args_tuple_lt_2 _ _)) M
 show wpAny _ _ (isInstance ZN2 (.type "tuple") >>= _) _ _ s
 refine FI (HG (T:="tuple") ⟨o',j,q⟩ isSubtype_tuple_tuple ?_)
 simp only[Ij,Ge,Hb]
 refine FI (wpAny_tupleItemsOf e d ?_)
 refine FI (wpAny_tupleItemsOf j L ?_)
 refine Z3V
 simp only[JU,List.zip_nil_right,IH,List.forIn_nil]
 refine ZAR
 by_cases h1:x=x'
 ·subst h1
  rw[show (x == x)=true by simp]
  simp only[Ij,Ge,Hb]
  refine Z5h
  dsimp only
  refine ZAR
  by_cases h2:y=y'
  ·subst h2
   rw[show (y == y)=true by simp]
   simp only[Ij,Ge,Hb]
   refine Z5h
   dsimp only
   refine ZAR
   by_cases G:z=z'
   ·subst G
    rw[show (z == z)=true by simp]
    simp only[Ij,Ge,Hb]
    refine Z5h
    dsimp only
    refine Z5h
    dsimp only
    refine FN ⟨_,rfl,(λ z=>nomatch z),?_⟩
    rwa [show decide (x*1000000+y*1000+z<x*1000000+y*1000+z)=false by simp] at h
   ·rw[show (z == z')=false by simpa using G]
    simp only[Jm,IG]
    refine Z2w
    dsimp only
    repeat' (refine Z5h;try dsimp only)
    refine⟨_,rfl,(λ z=>nomatch z),?_⟩
    rwa [show decide (x*1000000+y*1000+z<x*1000000+y*1000+z')=decide (z<z') by rw[HW];lia] at h
  ·rw[show (y == y')=false by simpa using h2]
   simp only[Jm,IG]
   refine Z2w
   dsimp only
   repeat' (refine Z5h;try dsimp only)
   refine⟨_,rfl,(λ z=>nomatch z),?_⟩
   rwa [show decide (x*1000000+y*1000+z<x*1000000+y'*1000+z')=decide (y<y') by rw[HW];lia] at h
 ·rw[show (x == x')=false by simpa using h1]
  simp only[Jm,IG]
  refine Z2w
  dsimp only
  repeat' (refine Z5h;try dsimp only)
  refine⟨_,rfl,(λ z=>nomatch z),?_⟩
  rwa [show decide (x*1000000+y*1000+z<x'*1000000+y'*1000+z')=decide (x<x') by rw[HW];lia] at h
end
def Low (val:Nat->Int) (j m:Nat):Prop:=m<j/\∀ i,i<j->val m<=val i
section
variable {prog:Program}{w:World}{A:Around}{R:Result->Shared->Prop}{it S:Addr}{fp wr:List Addr}{n:Nat}{Pi:Nat->Value->Prop}{St:Nat->Heap->Prop}{x y z:Nat->Int}{bs:Nat->Addr}
theorem tE (W:Z19) (hv:∀ i v,Pi i v->v=.ref (bs i)) (out:S∉fp) (hu:A.in1.units<cLine) (hb:∀ i,i<n->bs i∉wr/\bs i≠S) :
  ∀ (left j:Nat) (s:Shared) (m:Nat) (c:Nat),left=n-j->0<j->j<=n->St j s.heap->Low Z12 j m->(∀ i,i<n->Tri s.heap ZDO (x i) (y i) (z i)) ->
   s.heap.get? S=some { cls:=.type "list",dict:=none,data:=.seq #[.ref (bs m),.ref (bs m)] c,slots:=#[] } ->
   (∀ m' h' tk,Low Z12 n m'->(∀ b o,b∉wr->b≠S->s.heap.get? b=some o->h'.get? b=some o)->R (.ok (.ret (.ref (bs m')))) { s with heap:=h',toks:=tk }) ->
   codeAny ZF A (.builtin "min.loop" ⟨Z3O,[]⟩) R s:=by
 have O:S∉wr:=λ z=>Z6K
 have nm:(toString "min" ++ toString ".loop" :ZDR) = "min.loop":=Z4
 intro left
 induction left with
 | zero=>
  intro j s m c hl h0 hj Y tp ht hS J
  obtain rfl:j=n:=Z1
  refine Z63
  rw[Z28]
  refine Z2I
  refine FI (HI (W.done s _ _ Y λ h' tk Z=>?_))
  refine FI (Hw (Z S _ O hS) rfl ZCC)
  exact J m _ tk tp λ b o nb nS e=>ZCU
 | succ left ih=>
  intro j s m c hl h0 hj Y tp ht hS J
  have lt:j<n:=Z1
  refine Z63
  rw[Z28]
  refine Z2I
  refine FI (HI (W.item j s _ _ lt Y λ v h' tk pv M Z=>?_))
  have V:=Z S _ O hS
  have L:∀ i,i<n->Tri h' ZDO (x i) (y i) (z i):=λ i hi=>by
   obtain⟨b,o,q,t1,t2,t3,e0,e,r⟩:=ht i hi
   cases e0
   exact⟨_,o,q,t1,t2,t3,rfl,Z _ o (hb i hi).1 e,r⟩
  obtain rfl:=hv j v pv
  refine Z6v
  refine ZHs
  refine xZ hu (L j lt) (L m (by have:=tp.1;lia)) ?_
  refine ZJH
  refine ZCC
  by_cases g:fA (x j) (y j) (z j)<fA (x m) (y m) (z m)
  ·have a2:Low Z12 (j+1) j:=⟨Z1,λ i hi=>by
    by_cases e:i=j
    ·subst e;exact GC _
    ·have:=tp.2 i Z1
     dsimp only at this ⊢
     lia⟩
   rw[FX (Gg g)]
   refine FI (Hw V rfl ZCD)
   rw[nm]
   refine FN ⟨Z3u,ih (j+1) _ j _ Z1 Z1 lt (W.frame _ _ _ M λ b a3 o e=>?_) a2 ZMB (Heap.get?_update_self _ V rfl) λ m' U G q a1=>?_⟩
   ·exact(Heap.get?_update_other _ _ (λ z:S=b=>out (z ▸ a3))).trans e
   ·obtain⟨b,o,q,t1,t2,t3,e0,e,r⟩:=L i hi
    cases e0
    exact⟨_,o,q,t1,t2,t3,rfl,(Heap.get?_update_other _ _ (Ne.symm (hb i hi).2)).trans e,r⟩
   ·exact J m' U G q λ b o nb nS e=>a1 b o nb nS ZCU
  ·have a2:Low Z12 (j+1) m:=⟨by have:=tp.1;lia,λ i hi=>by
    by_cases e:i=j
    ·subst e
     dsimp only
     lia
    ·exact tp.2 i Z1⟩
   rw[FV (λ z=>g (GH z))]
   refine ZCD
   rw[nm]
   refine FN ⟨Z3u,ih (j+1) _ m c Z1 Z1 lt M a2 L V λ m' U G q a1=>?_⟩
   exact J m' U G q λ b o nb nS e=>a1 b o nb nS (Z b o nb e)
theorem pO (W:Z19) (hv:∀ i v,Pi i v->v=.ref (bs i)) (out:S∉fp) (hu:A.in1.units<cLine) (V:∀ i,i<n->bs i∉wr/\bs i≠S) (hn:0<n) (Z:St 0 s.heap) (ht:∀ i,i<n->Tri s.heap ZDO (x i) (y i) (z i))
  (hS:s.heap.get? S=some { cls:=.type "list",dict:=none,data:=.seq #[] c,slots:=#[] })
  (O:∀ M h' tk,Low Z12 n M->(∀ b o,b∉wr->b≠S->s.heap.get? b=some o->h'.get? b=some o)->R (.ok (.ret (.ref (bs M)))) { s with heap:=h',toks:=tk }) :
  codeAny ZF A (.builtin "min.loop" ⟨Z3O,[]⟩) R s:=by
 have J:S∉wr:=λ z=>Z6K
 have nm:(toString "min" ++ toString ".loop" :ZDR) = "min.loop":=Z4
 refine Z63
 rw[Z28]
 refine Z2I
 refine FI (HI (W.item 0 s _ _ hn Z λ v h' tk pv G kp=>?_))
 have j:=kp S _ J hS
 obtain rfl:=hv 0 v pv
 show wpAny _ A.in1 (updateSeq S (λ _=>#[.ref (bs 0),.ref (bs 0)]) >>= _) _ _ _
 refine Z9W
 rw[nm]
 refine FN ⟨Z3u,tE (x:=x) (y:=y) (z:=z) W hv out hu V _ 1 _ 0 _ rfl Z1 hn (W.frame _ _ _ G λ b Y o e=>?_) ⟨Z1,λ i hi=>?_⟩ ZMB (Heap.get?_update_self _ j rfl) λ M U L q a1=>?_⟩
 ·exact(Heap.get?_update_other _ _ (λ z:S=b=>out (z ▸ Y))).trans e
 ·obtain rfl:i=0:=Z1
  exact Z9U
 ·obtain⟨b,o,q,t1,t2,t3,e0,e,r⟩:=ht i hi
  cases e0
  exact⟨_,o,q,t1,t2,t3,rfl,(Heap.get?_update_other _ _ (Ne.symm (V i hi).2)).trans (kp _ o (V i hi).1 e),r⟩
 ·exact O M U L q λ b o nb nS e=>a1 b o nb nS ((Z0E).trans (kp b o nb e))
end
end Tim
namespace L2
open PySem PySem.Spec PyProof.Rows
section
variable {X:Cx}
def yW (kvs:List (List Key×V)) (ns:List (Int×Int×Int)):Prop:=kvs.map (·.1)=ns.map (λ n=>Z0g)
inductive yg (xs:List V) (H:Hp) (Q:VK):Prop
 | mk:∀ a kvs ns,xs=[Z_]->Rd H a Zl->yW kvs ns->ns≠[]->(∀ n∈ns,0<=n.2.1/\n.2.1<1000/\0<=n.2.2/\n.2.2<1000)->(∀ b n,n∈ns->(∀ m∈ns,Tim.fA n.1 n.2.1 n.2.2<=Tim.fA m.1 m.2.1 m.2.2)->H b=some (.tup Zp)->Q Zj H)->yg xs H Q
theorem sE (hc:X.calm=true) (hu:X.A.units+1<cLine):eG X (.builtin "min") yg:=by
 intro pins s σ H xs us Q I r h
 obtain⟨a,kvs,G,rfl,e,hk,ne,sm,q⟩:=h
 obtain⟨u,rfl,rx⟩:=Z4x
 cases rx
 obtain⟨z,hd,xs,a2,o,es,ep,ho,hx,O,he,a5,hn⟩:=Z5F
 have lx:xs.length=kvs.length:=(Paired.length a2).symm
 have le:es.size=kvs.length:=by rw[<- lx];exact HP he
 have ln:G.length=kvs.length:=by have:=congrArg List.length hk;simpa using this.symm
 have J:∀ i,i<kvs.length->∃ n b v,G[i]? = some n/\xs[i]? = some (Z0g,b,v)/\H b=some (.tup Zp):=λ i hi=>by
  obtain⟨y,hy,Y,Z,f3⟩:=Paired.rf a2 ZCw
  have hn:G[i]? = some (G[i]'(Z1)):=FJ _
  have k1:(kvs.map (·.1))[i]? = some (kvs[i].1):=by rw[FP,ZCw];rfl
  have a4:kvs.map (·.1)=G.map (λ n=>Z0g):=hk
  rw[a4,FP,hn] at k1
  have k2:kvs[i].1=[Sum.inl (G[i]'(Z1)).1,Sum.inl (G[i]'(Z1)).2.1,Sum.inl (G[i]'(Z1)).2.2]:=(Option.some.inj k1).symm
  obtain⟨yk,yb,yv⟩:=y
  refine⟨_,yb,yv,hn,?_,?_⟩
  ·rw[hy]
   have:kvs[i].1=yk:=Y
   rw[<- this,k2]
  ·have a1:H yb=some (.tup (kvs[i].1.map kV)):=Z
   rw[k2] at a1
   exact a1
 have fg:∀ (i:Nat) (n:Int×Int×Int) (b:Addr) (v:Value),G[i]? = some n->xs[i]? = some (Z0g,b,v)->(xs[i]?.map (·.2.1)).getD 0=b/\(G[i]?.map (·.1)).getD 0=n.1/\(G[i]?.map (·.2.1)).getD 0=n.2.1/\(G[i]?.map (·.2.2)).getD 0=n.2.2:=λ i n b v h1 h2=>by
  rw[h1,h2];exact ZDl
 have la:a<s.heap.objs.size:=ZAN
 have nm:(toString "min" ++ toString ".loop" :ZDR) = "min.loop":=Z4
 refine call_function_tree F.kind_min F.plain_min F.entry_min (F.args_min1 _) ?_
 refine FI (m:=Builtin.Builtins.bindParams "min" ["key","default"] 0 ZFE) (G9 (show Builtin.Builtins.bindParams "min" ["key","default"] 0 ZFE=pure [none,none] from rfl) ?_)
 refine Z6v
 refine FI (ky hd ho hx O ?_)
 refine FI (Hr ?_)
 rw[nm]
 let h1:Heap:=s.heap.push { cls:=.type "dict_keyiterator",data:=.fields #[Z_,Z6l,ZKj,ZJR] }
 have sz:h1.objs.size=s.heap.objs.size+1:=Heap.size_push ..
 have U:∀ b o,s.heap.get? b=some o->(h1.push { cls:=.type "list",data:=.seq #[] 0 }).get? b=some o:=λ b o e=>Z4T
 have a3:∀ i,i<kvs.length->(xs[i]?.map (·.2.1)).getD 0<s.heap.objs.size:=λ i hi=>by
  obtain⟨n,b,v,W,L,M⟩:=J i hi
  rw[(fg i n b v W L).1]
  exact I.hok.lt M
 refine FN ⟨Z3u,Tim.pO (S:=h1.objs.size) (bs:=λ i=>(xs[i]?.map (·.2.1)).getD 0) (x:=λ i=>(G[i]?.map (·.1)).getD 0) (y:=λ i=>(G[i]?.map (·.2.1)).getD 0) (z:=λ i=>(G[i]?.map (·.2.2)).getD 0)
  (Tim.Walks.xm (by simpa using I.ok.hd hc) s.heap.objs.size a (F1 la) O) (λ i v hv=>?_) ?_ (by simpa using hu) (λ i hi=>?_) ?_ ⟨⟨_,Heap.get?_push_of_some _ (Heap.get?_push_size _ rfl),rfl,rfl⟩,U _ _ ho⟩ (λ i hi=>?_) (Heap.get?_push_size _ rfl) λ m h' tk lo kp=>?_⟩
 ·obtain⟨en,W,rfl⟩:=hv
  have hi:i<es.size:=by
   rw[Hv] at W;exact W.1
  obtain⟨n,b,v,L,M,_⟩:=J i Z1
  rw[(ZKK).1]
  have V:es.toList[i]? = some en:=by simpa using W
  rw[he,FP,M] at V
  cases V
  rfl
 ·intro z
  simp only[FR,FU,Ga] at z
  rw[sz] at z
  rcases z with z|z
  ·exact absurd z (Nat.succ_ne_self _)
  ·rw[<- z] at la;exact absurd la (Nat.not_lt.mpr ZCV)
 ·have:=a3 i Z1
  refine⟨λ z=>?_,?_⟩
  ·simp only[FR,FU,Ga] at z
   exact F1 this z
  ·rw[sz];exact F1 (GY this)
 ·rw[le,<- ln];exact List.length_pos_iff.mpr ne
 ·obtain⟨n,b,v,L,M,V⟩:=J i Z1
  obtain⟨Y,Z,f3,f4⟩:=ZKK
  dsimp only
  rw[Y,Z,f3,f4]
  exact(qa I.hok V (sm n (FT L))).keeps λ b o _ e=>U b o e
 ·obtain⟨n,b,v,L,M,V⟩:=J m (by have:=lo.1;lia)
  obtain⟨Y,Z,f3,f4⟩:=fg m n b v L M
  dsimp only
  rw[Y]
  refine⟨Zj,H,I.kept λ c oc e=>kp c oc ?_ ?_ (U c oc e),rfl,q b n (FT L) (λ k hk=>?_) V⟩
  ·simp only[FL];exact F1 ZK
  ·rw[sz];exact F1 (GY ZK)
  ·obtain⟨j,hj,rfl⟩:=Gm hk
   obtain⟨n',b',v',g2,g3,_⟩:=J j Z1
   obtain⟨_,d2,d3,d4⟩:=fg j n' b' v' g2 g3
   have:=lo.2 j Z1
   dsimp only at this
   rw[Z,f3,f4,d2,d3,d4] at this
   rw[ZJF] at g2
   cases g2
   exact this
end
end L2
namespace Zn
open PySem
section
variable {prog:Program}{w:World}{A:Around}{E:Value->Shared->Prop}{s:Shared}
end
end Zn
namespace L2
open PySem PySem.Spec PyProof.Rows
section
variable {X:Cx}{K:PySem.W.Frag}
end
theorem vW {K:PySem.W.Frag}{W Y:Addr}{xs ys:Z04}{k:Nat}{g:TG}{tc:TT}{te:TE}{σ:St}{H1:Hp}{Q:VK}(a1:xs.length<=1000) (J:xs.length=ys.length)
  (h:∀ acc,H1 acc=none->∃ F:Nat->St->List V->Hp->Prop,F 0 (σ++List.replicate k none) [] Z3H/\(∀ i j zs H2,i<=xs.length->F i j zs H2->SqL K H2 W xs/\SqL K H2 Y ys/\zs.length<=i) /\
   (∀ i x y p j zs H2,i<xs.length->xs[i]? = some x->ys[i]? = some y->H2 p=none->F i j zs H2->g Zs j (upd H2 p Z9L) λ q Z=>tc q Z λ b O=>if b=true then te q O λ v U=>U acc=some Z5P/\Nx xs.length i (F (i+1) q (zs++[v]) (upd U acc (.lst (zs++[v])))) else Nx xs.length i (F (i+1) q zs O)) /\
   ∀ j zs H2,F xs.length j zs H2->Q Zt H2):je (Itz K W Y) k g tc te σ H1 Q:=by
 intro acc ha
 obtain⟨F,p0,pl,ps,pd⟩:=h acc ha
 refine⟨λ i m j zs H2=>m=xs.length-i/\i<=xs.length/\F i j zs H2,⟨xs.length,Ze,Z8g,p0⟩,?_⟩
 rintro i m j zs H2 ⟨rfl,hi,p⟩
 obtain⟨L,M,ln⟩:=pl i j zs H2 hi p
 by_cases G:i<xs.length
 ·refine .inr ⟨⟨xs,ys,xs[i],ys[i],L,M,by simp[G],by simp[J ▸ G]⟩,GI ln (dc (by lia)),λ v H3 z=>?_⟩
  obtain⟨b,x,y,nb,rfl,rfl,z1,z2⟩:=z
  exact ps i x y b j zs H2 G (z1 xs L) (z2 ys M) nb p
 ·have e:i=xs.length:=Z1
  subst e
  exact .inl ⟨⟨xs,ys,L,M,.inl Z9⟩,pd j zs H2 p⟩
end L2
namespace PySem
section
variable {prog:Program}{w:World}{A:Around}{E:Value->Shared->Prop}{s:Shared}
theorem tM (M:A.handled=none) (I d) (F:d≠I) (es:Z4V) (ep) :
  Walks prog w A I [I,d] [I] es.size (λ i v=>∃ h:i<es.size,v=es[i].key) (λ i h=>h.IsKeyIter I d i es.size ep/\∃ od,h.get? d=some od/\od.data=.dict es ep) where
 sub:=λ b j=>by simp at j;simp[j]
 frame:=λ _ _ _ st J=>⟨st.1.at λ o e=>J I Z8 o e,let ⟨od,h1,h2⟩:=st.2;⟨od,J d Z8 _ h1,h2⟩⟩
 item:=λ i s Q E hi st q=>by
  obtain⟨it,od,h1,h2⟩:=st
  refine kD it h1 h2 hi λ h' G L=>?_
  exact q _ h' s.toks ⟨hi,rfl⟩ ⟨G,od,by rw[L.2 d F];exact h1,h2⟩ λ b o j e=>by rw[L.2 b (λ z=>j (by simp[z]))];exact e
 done:=λ s Q E st q=>by
  obtain⟨it,od,h1,h2⟩:=st
  exact mZ M it h1 h2 Z9 λ h' ex=>q h' s.toks λ b o j e=>ex b o (λ z=>j (by simp[z])) e
 self:=λ _ _ _ _ st q=>JO st.1 q
theorem lH:isSubtype (.type "dict") (.type "dict")=pure true:=by rw[Kq];kernel_rfl
theorem keys_eq {es:Z4V}{acc:Z5i}(h:ItemsOf (λ i v=>∃ h:i<es.size,v=es[i].key) acc es.size):acc.toList=es.toList.map (·.key):=by
 refine Z3U
 rw[FP,Gz,Gz]
 by_cases q:i<acc.size
 ·have j:=Gn q
  obtain⟨F,G⟩:=h.2 i _ j
  rw[j,Gn F,G];rfl
 ·rw[G0 Z1,G0 (by have:=h.1;lia)];rfl
theorem nH {Q:List Value->Shared->Prop}{a:Addr}{o:Obj}{es:Z4V}{ep:Nat}(hh:A.handled=none) (hd:(a == sysModules)=false) (ho:s.heap.get? a=some o) (hx:o.ExactDict) (G:o.data=.dict es ep) (a1:es.size<=sizeLine)
  (h:∀ h' tk,(∀ b o,s.heap.get? b=some o->h'.get? b=some o)->Q (es.toList.map (·.key)) { s with heap:=h',toks:=tk }) :
  wpAny ZF A (collect Z_) Q E s:=by
 have la:a<s.heap.objs.size:=ZAN
 have ne:s.heap.objs.size≠a:=GV la
 unfold collect
 refine Z6w
 rw[Z5S]
 unfold Builtin.«proto.collect»
 refine FI (Js ?_)
 refine Z43
 rw[Z6C]
 unfold Builtin.«list.__iadd__»
 refine FI (G9 (a:=(ZD,ZKR)) rfl ?_)
 dsimp only
 unfold Builtin.List.listExtendWith
 have L:(s.heap.push { cls:=.type "list",data:=.seq ([]:Zh).toArray }).get? a=some o:=Heap.get?_push_of_some _ ho
 have T1:Shared.TypeIs { s with heap:=s.heap.push { cls:=.type "list",data:=.seq ([]:Zh).toArray } } Z_ "dict":=⟨o,L,hx.1⟩
 refine ZM1
 have h1:Builtin.List.listSameRef ZD (Z_)=false:=by simp[Builtin.List.listSameRef,ne]
 have h2:(Value.type "dict" == Value.type "list")=false:=Z4
 have h3:(Value.type "dict" == Value.type "tuple")=false:=Z4
 simp only[h1,h2,h3,Bool.or_false,Ge,Hb]
 refine FI (ky hd L hx G ?_)
 refine Z8i
 unfold Builtin.List.listLengthHint
 generalize O:({ cls:=.type "dict_keyiterator",data:=.fields #[.ref a,.int 0 0,.int es.size 0,.int ep 0] }:Obj)=V
 have M:((s.heap.push { cls:=.type "list",data:=.seq ([]:Zh).toArray }).push V).get? a=some o:=Heap.get?_push_of_some _ L
 have Z:Shared.TypeIs { s with heap:=(s.heap.push { cls:=.type "list",data:=.seq ([]:Zh).toArray }).push V } Z_ "dict":=⟨o,M,hx.1⟩
 refine FI (Jc Z F.slot_dict_len.lookup ?_)
 wp_delta
 refine FI (HG Z lH ?_)
 show wpAny _ A.in1 (typeOf Z7a >>= _) _ _ _
 refine FI (JA Z Zi)
 rw[FX Z4]
 refine FI (Ia ?_)
 have it:((s.heap.push { cls:=.type "list",data:=.seq ([]:Zh).toArray }).push V).IsKeyIter (s.heap.push { cls:=.type "list",data:=.seq ([]:Zh).toArray }).objs.size a 0 es.size ep:=⟨_,Heap.get?_push_size _ (by rw[<- O];rfl),by rw[<- O],by rw[<- O];rfl⟩
 generalize hH:s.heap.push { cls:=.type "list",data:=.seq ([]:List Value).toArray }=H at it M Z ⊢
 have W:H.objs.size=s.heap.objs.size+1:=by rw[<- hH,Heap.size_push]
 have j:(ZLu).get? s.heap.objs.size=some { cls:=.type "list",data:=.seq ([]:Zh).toArray }:=Heap.get?_push_of_some _ (hH ▸ Heap.get?_push_size _ rfl)
 show wpAny _ A.in1 (Builtin.List.listTouch ZD >>= _) _ _ _
 refine Z3V
 show wpAny _ A.in1 (updateSeq s.heap.objs.size (·.push .none) >>= λ _=>updateSeq s.heap.objs.size (·.pop)) _ _ _
 refine Z9W
 have q:=Heap.get?_update_self (Obj.mapSeq (·.push Value.none)) j rfl
 refine Hw q rfl ?_
 have J:=Heap.get?_update_self (Obj.mapSeq (·.pop)) q rfl
 have U:∀ b o,b≠s.heap.objs.size->(ZLu).get? b=some o->(((ZLu).update s.heap.objs.size (Obj.mapSeq (·.push Value.none))).update s.heap.objs.size (Obj.mapSeq (·.pop))).get? b=some o:=
  λ b o hb e=>ZAn
 have nI:s.heap.objs.size≠H.objs.size:=Z1
 have a3:s.heap.objs.size∉[H.objs.size,a]:=by simp only[FR,FU,Ga,Hz];exact⟨nI,ne⟩
 refine FN ⟨ZCB,codeAny_extend_loopS (tM (A:=A.in1) hh H.objs.size a (F1 (by rw[W];exact GY la)) es ep).toS a1 _ a3 _ es.size 0 _ _ _ rfl Z8g
  ⟨it.at λ o e=>U _ o (Ne.symm nI) e,o,U _ o Z4v M,G⟩ J ZJn λ s' a6 c' hm a2 Y=>?_⟩
 obtain⟨h',g',d',a5,a4⟩:=s'
 obtain rfl:g'=s.gens:=hm.gens
 obtain rfl:d'=s.drawn:=hm.drawn
 obtain rfl:a4=s.os:=hm.os
 show wpAny _ A (load s.heap.objs.size >>= _) _ _ _
 refine FI (wpAny_load a2 Zi)
 rw[keys_eq Y]
 refine h h' a5 λ b o e=>hm.heap b o ?_ (U b o Z8x (Heap.get?_push_of_some _ (hH ▸ Heap.get?_push_of_some _ e)))
 have:=ZK
 simp only[FR,FU,Ga,Hz]
 exact⟨F1 this,F1 (by show b<H.objs.size;rw[W];exact GY this)⟩
end
end PySem
namespace L2
open PySem PySem.Spec PyProof.Rows
section
variable {X:Cx}
def pI (H:Hp) (kvs:List (List Key×V)) (bs:Zq):Prop:=bs.length=kvs.length/\∀ (i:Nat) b k v,bs[i]? = some b->kvs[i]? = some (k,v)->H b=some Z0j
inductive uY (xs:List V) (H:Hp) (Q:VK):Prop
 | mk:∀ a kvs,xs=[.ref a]->H a=some (.dT kvs)->kvs.length<64->(∀ bs,pI H kvs bs->(∀ v∈bs.map V.ref,Nm H v)/\((bs.map V.ref).map (rk3 H)).Nodup/\∀ l ls',H l=none->ls'.Perm (bs.map V.ref)->ls'.Pairwise (λ u v=>rk3 H u<rk3 H v)->Q Zg ZF3)->uY xs H Q
theorem pH (U:X.calm=true):eG X (.builtin "sorted") uY:=by
 intro pins s σ H xs us Q I r h
 obtain⟨a,kvs,rfl,ha,O,h⟩:=h
 obtain⟨u,rfl,rx⟩:=Z4x
 cases rx
 obtain⟨z,y,xs,r,o,es,ep,g1,g2,g3,g4,g5⟩:=(show dm X.prog X.w H s.heap a Zl from I.hok a _ ha)
 have hn:es.size=kvs.length:=by rw[HP g4];exact ZHQ
 have hx:xs.length=kvs.length:=ZHQ
 have ek:es.toList.map (·.key)=(ZG9).map Value.ref:=by
  refine Z3U
  rw[FP,FP,FP,Gz,ZLR]
  cases xs[i]? <;> rfl
 have ks:pI H kvs (ZG9):=by
  refine⟨by rw[FO,hx],λ i b k v j hk=>?_⟩
  obtain⟨q,W,q1,q2,q3⟩:∃ q,xs[i]? = some q/\k=q.1/\H q.2.1=some (.tup (k.map kV))/\RelV v q.2.2:=by
   obtain⟨q,W,h⟩:=Paired.rf (i:=i) r hk
   exact⟨q,W,h⟩
  rw[FP,W] at j
  cases j
  exact q2
 obtain⟨nm,nd,q⟩:=h _ ks
 generalize xs.map (λ q=>q.2.1)=bs at ek ks nm nd q
 have lb:bs.length=kvs.length:=ks.1
 refine Tim.kR (nH (by simpa using I.ok.hd U) y g1 g2 g3 (by rw[hn,HQ];lia) λ h1 tk kp=>?_)
 rw[ek]
 have M:Inv X pins σ H { s with heap:=h1,toks:=tk }:=I.kept kp
 have F:∀ b∈bs,Tim.eP h1 (Zj)=rk3 H (Zj)/\∃ x y z,Tim.Tri h1 Zj x y z:=λ b j=>by
  obtain⟨b',x,y,z,e,J,qq⟩:=nm _ (F4 j)
  cases e
  have T:=qa M.hok J qq
  exact⟨by rw[T.rk];unfold rk3;simp only[J],x,y,z,T⟩
 refine⟨λ v hv=>?_,?_,by rw[FO,lb];exact O,λ a1 h' c Z e pm so=>?_⟩
 ·obtain⟨b,j,rfl⟩:=F2.mp hv
  exact(F b j).2
 ·rw[GJ] at nd ⊢
  exact(GD (f:=Tim.eP h1 ∘ Value.ref) (g:=rk3 H ∘ V.ref) λ b j=>(F b j).1) ▸ nd
 ·obtain⟨L,J,G⟩:=mi pm
  have Y:(ZFa).length<=sizeLine:=by
   rw[FO,G.length_eq,lb,HQ];lia
  refine⟨.ref _,_,M.laid (t':=tk) Z Z9 (show dm X.prog X.w _ h' _ (.lst ZFa) from ⟨Y,a1.toList,c,by rw[J];exact jo L,by rw[e]⟩),rfl,q _ ZFa M.fresh (G.map _) ?_⟩
  rw[J,Hj] at so
  rw[Hj]
  refine so.imp_of_mem λ{b c} j U lt=>?_
  rw[<- (F b (G.mem_iff.mp j)).1,<- (F c (G.mem_iff.mp U)).1];exact lt
end
section
variable {X:Cx}
inductive yS (xs:List V) (H:Hp) (Q:VK):Prop
 | mk:∀ j:Int,xs=[Z0r]->(∀ l,H l=none->Q Zg (upd H l (.rng 0 j)))->yS xs H Q
theorem mx:eG X (.type "range") yS:=by
 intro pins s σ H xs G Q I r h
 obtain⟨j,rfl,q⟩:=h
 obtain⟨u,rfl,F⟩:=Z4x
 obtain⟨t,rfl⟩:=F
 refine call_range_1 ⟨ZD,_,I.laid ZBd Z9 (show dm X.prog X.w _ _ _ (.rng 0 j) from ZJz),rfl,ZA3⟩
end
section
variable {X:Cx}
inductive pA (C:Addr) (m:Str) (name:Str) (qual:Str) (st:Stmt) (F:List Str) (sp:List V->Sp) (E:XK) (t:TA) (σ:St) (Q:VK) (x:V) (H1:Hp):Prop
 | mk:∀ a dx fs f ws,x=.ref a->H1 a=some (.ins C dx fs)->fs.lookup m=some (.ref f)->Clo H1 name qual st F f ws->(t σ H1 λ vs H2=>iK H1 H2/\sp ws vs H2 Q E)->pA C m name qual st F sp E t σ Q x H1
def xT (C:Addr) (m name qual:Str) (st:Stmt) (F:ZT) (sp:List V->Sp) (E:XK) (tf:TE) (t:TA):TE:=λ σ H Q=>tf σ H λ x H1=>pA C m name qual st F sp E t σ Q x H1
theorem tZ {CX:CXT}{k:Nat}{C:Addr}{m name qual:Str}{st:Stmt}{o:Expr}{ps F:ZT}{sp:List V->Sp}{E:XK}{apos pos:Pos}{e:Expr}{es:Z3D}{tf:TE}{t:TA}{pl:ZLi}(CO:Z42) (hr:Z9i)
  (hf:PE X o tf) (c:Z6W) (n:dr X.K C m) (hx:Z2G) (ha:PA X (e::es) t) (hst:starEach (e::es) X.env=(false,Z0Q)::starEach es X.env:=by rfl) (hpl:(Z07).any (·.1)=false:=by rfl)
  (ht:eval (.Call Z1S (e::es) [] pos) X.env=(do
   let ov <- eval o X.env
   standAt apos.atName
   let (f,first) <- holding [ov] Z7j
   callWith pos f first (backTo pos (starEach (e::es) X.env)) Z8G):=by rfl) :
  PE X (.Call Z1S (e::es) [] pos) (xT C m name qual st F sp E tf t):=by
 intro pins s σ H Q I h
 refine JL (pl:=pl) (thn (hf pins s σ H _ I h) λ u s1 z=>?_) ht
 obtain⟨x,H1,I1,rx,a,dx,fs,f,ws,ex,ea,l,cl,q⟩:=z
 subst ex
 obtain rfl:u=Value.ref a:=rx
 refine nE I1 ea c n l λ u2 s2 I2 ru=>?_
 obtain rfl:u2=Value.ref f:=ru
 exact uy CO hr hx ha I2 cl q hst hpl
end
def Ev (te:TE) (σ:St) (H:Hp) (v:V):Prop:=∀ Q:VK,Q v H->te σ H Q
def Es (ta:TA) (σ:St) (H:Hp) (vs:Z04):Prop:=∀ Q:List V->Hp->Prop,Q vs H->ta σ H Q
section
variable {σ:St}{H:Hp}{x y:V}{vs:List V}{te:TE}{ta:TA}{K:PySem.W.Frag}{C a dx:Addr}{fs:List (Str×V)}{m:Str}
theorem Ev.n (h:σ[i]? = some (some x)):Ev (dZ i) σ H x:=λ _ q=>⟨_,h,q⟩
theorem Ev.c:Ev (tC x) σ H x:=λ _ q=>q
theorem Ev.f (h:ZM3) (e:H a=some Z0A) (c:Cls K C) (n:dr K C m) (l:fs.lookup m=some x):Ev (nh K te m) σ H x:=λ _ q=>h _ ⟨a,C,dx,fs,x,rfl,e,c,n,l,q⟩
theorem Es.nil:Es lD σ H []:=λ _ q=>q
theorem Es.cons (h:Ev te σ H x) (k:ZD0):Es (gg te ta) σ H (x::vs):=λ Q q=>h _ (k _ q)
theorem tm (h:ZM3) (e:H a=some Z0A) (l:fs.lookup m=none) (j:ZD0) (k:sp (.ref a::(vs++[])) H Q E):lO C m sp [] E te ta σ H Q:=h _ ⟨a,dx,fs,rfl,e,l,j _ k⟩
theorem tcl (j:ZD0) (k:sp (vs++[]) H Q E):qM sp [] E ta σ H Q:=j _ k
end
theorem pG {prog:Program}{w:World}{A:Around}{it:Addr}{fp:Zq}{n:Nat}{P:Nat->Value->Prop}{St:Nat->Heap->Prop}(D:Draws prog w A it fp n P St) (c:Nat) :
  Draws prog w A it fp (c+n) (λ j x=>∃ i,j=c+i/\P i x) (λ j h=>∃ i,j=c+i/\St i h) where
 live:=λ j h ⟨i,_,st⟩=>D.live i h st
 frame:=λ j h h' ⟨i,e,st⟩ k=>⟨i,e,D.frame i h h' st k⟩
 item:=λ j s Q E L ⟨i,e,st⟩ G=>D.item i s Q E ZC st λ x h' tk p q J=>G x h' tk ⟨i,e,p⟩ ⟨i+1,ZC,q⟩ J
 done:=λ s Q E ⟨i,e,st⟩ F=>D.done s Q E (by rw[show n=i by omega];exact st) F
noncomputable def Itc (K:PySem.W.Frag) (l:Addr) (c:Nat):It:=
 ⟨λ i H=>∃ xs x,SqL K H l xs/\xs[i]? = some x,λ i H v H'=>∃ p x,H p=none/\v=.ref p/\H'=upd H p (.tup [.int ((c+i:Nat):Int),x])/\∀ xs,SqL K H l xs->xs[i]? = some x,λ i H=>∃ xs,SqL K H l xs/\xs.length<=i⟩
theorem qu {P:Program}{w:World}{K:PySem.W.Frag}{es:Z3D}{kk:Nat}{pos:Pos}(e it l c:Nat) (M:e≠it) (a2:l≠it) (a1:e≠l) :
  Turn P w K Z8L ZEA [e,it] e (λ i h=>(∃ F,IsEnum h e it ((c+i:Nat):Int) F)/\h.IsListIter it l i) where
 mem:=Ze
 obj:=λ i h st b G=>by
  obtain⟨⟨F,J⟩,⟨o1,e1,_,d1⟩⟩:=st
  simp only[FR,FU,Ga] at G
  rcases G with rfl|rfl
  ·exact⟨_,J,λ v q=>by cases q⟩
  ·exact⟨_,e1,λ v q=>by rw[d1] at q;cases q⟩
 keep:=λ i h h' st k=>by
  obtain⟨⟨F,J⟩,h1⟩:=st
  exact⟨⟨F,k e Z8 _ J⟩,ZBM⟩
 item:=by
  intro X hP hw hK hc i pins s σ H E I Y st hg
  subst hP hw hK
  obtain⟨xs,x,Z,hx⟩:=hg
  obtain⟨its,rv,p1,hz⟩:=I.list Z
  obtain⟨u,hu,ru⟩:=rv.get hx
  obtain⟨⟨F,J⟩,h1⟩:=st
  have lt:∀ {c o},s.heap.get? c=some o->s.heap.objs.size≠c:=λ e=>GV ZK
  have n1:s.heap.objs.size≠e:=lt J
  have n2:s.heap.objs.size≠it:=by obtain⟨_,q,_⟩:=h1;exact lt q
  have W:its.toArray[i]? = some u:=by simpa using hu
  have hi:i<its.toArray.size:=(Hv.mp W).1
  have D:=pG (Draws.list (prog:=X.prog) (w:=X.w) (A:=X.A.in1) ZEf it l a2 its.toArray) c
  refine wpAny_pyNext_enum_itemD D (i:=c+i) J ⟨i,rfl,h1,p1.isList⟩ (Nat.add_lt_add_left hi c) M (by simp[M,a1]) λ y h' tk py ho a4 hT a6 hk=>?_
  obtain⟨i',ei,ey⟩:=py
  obtain rfl:i=i':=ZC
  have O:its.toArray[i]? = some y:=ey
  rw[W] at O
  cases O
  obtain⟨i2,e2,V,_⟩:=a4
  obtain rfl:i2=i+1:=ZC
  refine⟨_,rfl,wpAny_letOwnedTupleGo_enum (s:={ s with heap:=h',toks:=tk+1 }) ho λ L U sb=>?_⟩
  have k2:∀ b o,b∉[e,it]->s.heap.get? b=some o->L.get? b=some o:=λ b o G q=>by
   simp only[FR,FU,Ga,Hz] at G
   exact(sb.2 b G.1).trans (hk b o G.1 G.2 q)
  have a3:dm X.prog X.w (upd H s.heap.objs.size (.tup [.int ((c+i:Nat):Int),x])) L s.heap.objs.size (.tup [.int ((c+i:Nat):Int),x]):=by
   have e5:L.get? s.heap.objs.size=some { cls:=.type "tuple",data:=.seq #[.int ((c+i:Nat):Int) tk,u] }:=ZF4
   exact⟨dc Z8,[.int ((c+i:Nat):Int) tk,u],ZBa,_,e5,rfl,_,rfl⟩
  refine⟨ZD,_,I.jA (t':=tk+1) k2 Y Z9 a3,rfl,⟨_,x,I.fresh,rfl,rfl,λ zs hs=>by rw[I.ia hs Z];exact hx⟩,?_,λ b G=>?_⟩
  ·exact⟨⟨_,by rw[show ((c+(i+1):Nat):Int)=((c+i:Nat):Int)+1 by omega];exact U⟩,V.at λ o q=>(sb.2 it M.symm).trans q⟩
  ·rw[cz]
   ·exact(Y b G).1
   ·simp only[FR,FU,Ga] at G
    rcases G with rfl|rfl
    ·exact Ne.symm n1
    ·exact Ne.symm n2
 done:=by
  intro X hP hw hK hc i pins s σ H E I Y st hg
  subst hP hw hK
  obtain⟨xs,Z,a5⟩:=hg
  obtain⟨its,rv,p1,hz⟩:=I.list Z
  obtain⟨⟨F,J⟩,h1⟩:=st
  have a7:=rv.length
  have no:its.toArray[i]? = none:=G0 (by simp;omega)
  have D:Draws X.prog X.w X.A.in1 it [it,l] i (λ _ _=>False) (λ j h=>j=i/\h.IsListIter it l i/\h.IsList l its.toArray):={
   live:=λ _ _ st=>let ⟨o,ho,_⟩:=st.2.1;⟨o,ho⟩
   frame:=λ _ _ _ st k=>⟨st.1,st.2.1.at λ o q=>k it Z8 o q,st.2.2.at λ o q=>k l Ze o q⟩
   item:=λ j _ _ _ hj st _=>absurd st.1 (F1 hj)
   done:=λ _ _ _ st hE=>wpAny_nextOf_list_end ZEf st.2.1 st.2.2 no hE }
  refine wpAny_pyNext_enum_endD D J ⟨rfl,h1,p1.isList⟩ λ h' hk=>⟨rfl,I.mH (t':=s.toks) (its:=[e,it]) (λ b o G q=>?_) Y⟩
  simp only[FR,FU,Ga,Hz] at G
  exact hk b o G.2 q
 self:=λ _ _ _ _ _ st h=>by
  obtain⟨⟨F,J⟩,_⟩:=st
  exact Jo J h
section
variable {prog:Program}{w:World}{A:Around}{E:Value->Shared->Prop}{s:Shared}
theorem oH {T id:String}{x:Value}{r:Zh}{kw:List (Str×Value)}(hl:typeLookup Z2Z "__init__" = pure (some (.builtin "object.__init__"))) (hm:Bind.madeBy Z2Z=pure (some id)) (hne:(some id != some "object.__new__")=true) :
  Meets (Builtin.«object.__init__» ⟨x::r,kw⟩) (λ _ R s=>s.TypeIs x T/\R Z8K s):=.of_wp λ _ _ _ _ _ ⟨hT,q⟩=>by
 cases r with
 | nil=>
  cases kw with
  | nil=>exact FN Z5U
  | cons a kw=>
   repeat (any_goals (first|assumption|wp_step))
   exact Z5U
 | cons a r=>
  repeat (any_goals (first|assumption|wp_step))
  exact Z5U
theorem qm {T id:String}{Bn:Builtin}{args:Zh}{kw:List (Str×Value)}{S:PySem.Spec}{Q:Value->Shared->Prop}(ft:TypeCalled T id "object.__init__") (hne:(some id != some "object.__new__")=true)
  (c1:checkTypeCall T ⟨args,kw⟩=pure ()) (c2:checkBuiltinCall id ⟨.type T::args,kw⟩=pure ()) (c3:∀ x,argsOk "object.__init__" ⟨x::args,kw⟩) (en:entryFor table id=some Bn) (g:Meets (Bn ⟨.type T::args,kw⟩) S)
  (h:S A.in1 (wants (λ x s=>s.TypeIs x T/\Q x s) E) s):wpAny ZF A (call Z2Z args kw) Q E s:=by
 obtain⟨_,_,hmro⟩:=ft.mro
 have hmade:=ft.made;have hsub:=ft.sub;have h1:=ft.notType;have h2:=ft.canCreate
 refine IJ (Kj (show wpAny _ _ (callAny Z2Z _) _ _ _ from FN ⟨Code.quiet_builtin _ (by decide +kernel),ZCt⟩))
 rw[Around.under_plain (weight_type_call_type T args kw) (units_type_call_type T args kw)]
 repeat (any_goals (first|assumption|wp_step))
 refine Ip (HS ft.plain en (G9 c2 (g prog w A.in1 _ s h))) λ r s₁ hr=>?_
 match r,hr with
 | .error e,hr=>exact hr
 | .ok (.ret x),hr=>
  have hli:=ft.init.lookup
  have hbi:=ft.init.bind x
  have hT:=hr.1
  repeat (any_goals (first|assumption|wp_step))
  refine Ip (HS ft.init.plain F.entry_object_init (ft.init.check _ _ _ _ _ _ _ _ hT (c3 x) (oH ft.init.lookup ft.made hne prog w A.in1 (wants (λ r s₂=>r=.none/\Q x s₂) E) s₁ ⟨hT,rfl,hr.2⟩))) λ r₂ s₂ q=>?_
  match r₂,q with
  | .error e,q=>exact q
  | .ok (.ret v),q=>
   obtain⟨rfl,q⟩:=q
   repeat (any_goals (first|assumption|wp_step))
  | .ok .next,q=>exact q.elim
  | .ok .brk,q=>exact q.elim
  | .ok .cont,q=>exact q.elim
 | .ok .next,hr=>exact hr.elim
 | .ok .brk,hr=>exact hr.elim
 | .ok .cont,hr=>exact hr.elim
theorem wF (a b):checkTypeCall "enumerate" ⟨[a],[("start",b)]⟩=pure ():=by kernel_rfl
theorem xW (a b):checkBuiltinCall "enumerate.__new__" ⟨[.type "enumerate",a],[("start",b)]⟩=pure ():=by kernel_rfl
theorem wJ (x a b):argsOk "object.__init__" ⟨[x,a],[("start",b)]⟩:=by
 kernel_rfl
set_option maxHeartbeats 2000000 in
theorem tY (l) (items:Z5i) (n) (tk) (F) (U:Z48) :
  Meets (Builtin.«enumerate.__new__» ⟨[.type "enumerate",Z3G],[("start",ZJS)]⟩) (λ _ R s=>s.heap.get? l=some { cls:=.type "list",dict:=F,data:=.seq items n,slots:=U } /\
   R (.ok (.ret (.ref (s.heap.push { cls:=.type "list_iterator",data:=.fields #[Z3G,Z6l] }).objs.size))) { s with heap:=(s.heap.push { cls:=.type "list_iterator",data:=.fields #[Z3G,Z6l] }).push { cls:=.type "enumerate",data:=.fields #[.none,.bool false,ZD,rawInt 1,.none,.none] } }):=.of_wp λ prog w A R s M=>by
 obtain⟨J,g,d,t,O⟩:=s;obtain⟨j,q⟩:=M
 have G:=sub_enumerate
 have L:Heap.IsList (Shared.heap ⟨J,g,d,t,O⟩) l items:=⟨_,j,rfl,n,rfl⟩
 wp_walk using AutoSeq1.wpAny_loadPart' j
 refine wpAny_stack_any λ st=>Z5h
 split
 ·rename_i c _ _ _ _ _
  cases (c == Value.type "enumerate")
  all_goals
   wp_walk using AutoSeq1.wpAny_loadPart' j,Ik L
   exact Z5U
 ·wp_walk using AutoSeq1.wpAny_loadPart' j,Ik L
  exact Z5U
theorem qC (M:Z6F)
  (h:∀ h',IsEnum h' (s.heap.objs.size+1) s.heap.objs.size 1 .none->h'.IsListIter s.heap.objs.size l 0->(∀ b o,s.heap.get? b=some o->h'.get? b=some o)->Q (.ref (s.heap.objs.size+1)) { s with heap:=h' }) :
  wpAny ZF A (call (.type "enumerate") [Z3G] [("start",ZJS)]) Q E s:=by
 obtain⟨⟨c,j,L,W⟩,V,O,n,U⟩:=M
 obtain rfl:c=.type "list":=O
 obtain rfl:L=.seq items n:=U
 refine qm F.called_enumerate Z4 (wF _ _) (xW _ _) (λ x=>wJ x _ _) F.entry_enumerate_new (tY l items n tk j W) ⟨V,?_⟩
 have J:(s.heap.push { cls:=.type "list_iterator",data:=.fields #[Z3G,Z6l] }).objs.size=s.heap.objs.size+1:=Heap.size_push ..
 generalize G:s.heap.push { cls:=.type "list_iterator",data:=.fields #[.ref l,.int 0 0] }=H1 at J ⊢
 have q:IsEnum (H1.push { cls:=.type "enumerate",data:=.fields #[.none,.bool false,ZD,rawInt 1,.none,.none] }) H1.objs.size s.heap.objs.size 1 .none:=ZG
 show _/\_
 rw[J] at q ⊢
 have it:H1.get? s.heap.objs.size=some { cls:=.type "list_iterator",data:=.fields #[Z3G,Z6l] }:=by rw[<- G];exact ZG
 exact⟨⟨_,q,rfl⟩,h _ q ⟨_,Heap.get?_push_of_some _ it,rfl,rfl⟩ λ b o x=>Heap.get?_push_of_some _ (by rw[<- G];exact Heap.get?_push_of_some _ x)⟩
end
section
variable {M:Model}{A:Around}{E:Value->Shared->Prop}{s:Shared}{env:Env}
theorem qE
  (h:wpAny M A (spliced Z8u) (λ vs j=>wpAny M A (evalAll ((Z0_).map (·.2))) (λ ks s₂=>wpAny M A (call Z2Z vs (((Z0_).filterMap (·.1)).zip ks)) Q E s₂) E j) E s)
  (G:starEach [e] env=[(false,ZBx)]) (F:(Z0_).all (·.1.isSome)=true:=by rfl) (J:(Z0_).any (·.1.isNone)=false:=by rfl) :
  wpAny M A (callWith pos Z2Z [] Z8u Z0_) Q E s:=by
 rw[G] at h ⊢
 have q:=PyProof.Rows.evalArgs_kwB (f:=.type T) (Q:=λ a j=>wpAny M A (call Z2Z ([]++a.pos) a.kw) Q E j) F h
 unfold callWith
 refine FI (Gp (GL q (λ a j z=>FI (IA ?_)) λ _ _ x=>x))
 rw[J]
 refine FI (FN (FI (GL z (λ r s₂ y=>FI (Gp (wpAny_point (FN y)))) λ _ _ x=>x)))
end
section
variable {X:Cx}{K:PySem.W.Frag}
inductive qT (K:PySem.W.Frag) (R:It->Hp->Prop) (vs:List V) (H1:Hp):Prop
 | mk:∀ p xs,vs=[Zs]->SqL K H1 p xs->R (Itc K p 1) H1->qT K R vs H1
def zE (K:PySem.W.Frag) (ta:TA):TI:=λ σ H R=>ta σ H λ vs H1=>qT K R vs H1
theorem ly (hg:Gl X "enumerate") (hm:X.mg "enumerate" = none) (ha:ZFW) (hs:starEach [a] X.env=[(false,Z3p)]:=by rfl) (hK:X.K=K:=by rfl) :
  PI X ZG6 (.Call (.Name "enumerate" p) [a] [⟨some "start",ZD4,kp⟩] pos) (zE K ta):=by
 subst hK
 intro pins s σ H R I h
 refine HJ (gJ I hg hm boot_enumerate (qE (thn ZBA λ us s1 z=>?_) hs))
 obtain⟨vs,H1,Z,r1,J⟩:=z
 obtain⟨l,xs,rfl,J,q⟩:=J
 obtain⟨u,rfl,rx⟩:=ZL7
 cases rx
 refine thn ((rZ (cJ (X:=X)) ui:PK X [⟨some "start",ZD4,kp⟩] _) pos pins s1 σ H1 (λ W H2=>W=[.int 1]/\H2=H1) Z Z05) λ ks j z=>?_
 obtain⟨W,H2,F,r2,e1,e2⟩:=z
 subst e1 e2
 obtain⟨u,rfl,⟨tk,rfl⟩⟩:=vals1 r2
 obtain⟨a1,rv,V,hz⟩:=F.list J
 show wpAny Z3 X.A (call (.type "enumerate") [Z3G] [("start",ZJS)]) _ _ j
 refine qC V.isList λ h' Y z2 G=>Jo Y ?_
 have U:l<j.heap.objs.size:=by obtain⟨_,z,_⟩:=V.isList;exact Heap.lt_size z
 refine⟨_,_,_,Itc X.K l 1,H2,rfl,F.kept (t':=j.toks) G,qu (j.heap.objs.size+1) j.heap.objs.size l 1 ZMe (F1 U) (GV (GY U)),⟨⟨_,Y⟩,z2⟩,λ b O=>?_,q⟩
 have L:j.heap.objs.size<=b:=by
  simp only[FR,FU,Ga] at O
  rcases O with rfl|rfl
  ·exact Jx _ _
  ·exact Z9
 exact F.mT L (F.hok.fresh L)
end
theorem jz {K:PySem.W.Frag}{l:Addr}{c:Nat}{xs:Z04}{g:TG}{tb:TS}{D:Ends}{σ:St}{H:Hp}(Pv:Nat->St->Hp->Prop) (h0:ZAE) (hl:∀ i σ H,i<=xs.length->Pv i σ H->SqL K H l xs)
  (hs:∀ i x p σ H,xs[i]? = some x->H p=none->Pv i σ H->g Zs σ (upd H p (.tup [.int ((c+i:Nat):Int),x])) λ σ2 H2=>tb { D with nx:=Pv (i+1),ct:=Pv (i+1),bk:=ZBZ} σ2 H2) (hd:∀ σ H,Pv xs.length σ H->D.nx σ H) :
  ∃ W:Nat->Nat->St->Hp->Prop,(∃ m,Z8c)/\∀ i m σ H,W i m σ H ->
   ((ZEA).stop i H/\D.nx σ H)\/((ZEA).go i H/\∃ N:St->Hp->Prop,(∀ σ' H',N σ' H'->∃ m',m'<m/\W (i+1) m' σ' H')/\∀ x H',(ZEA).yld i H x H'->g x σ H' λ σ2 H2=>tb { D with nx:=N,ct:=N,bk:=ZBZ} σ2 H2):=by
 refine⟨λ i m σ H=>m=xs.length-i/\i<=xs.length/\Pv i σ H,Z4g,?_⟩
 rintro i m σ H ⟨rfl,hi,p⟩
 have q:=Z78
 by_cases hlt:i<xs.length
 ·refine .inr ⟨⟨xs,xs[i],q,by simp[hlt]⟩,Pv (i+1),λ σ' H' p'=>⟨xs.length-(i+1),by omega,rfl,hlt,p'⟩,λ v H' y=>?_⟩
  obtain⟨a,x,na,rfl,rfl,y⟩:=y
  exact ZA5
 ·obtain rfl:i=xs.length:=ZC
  exact Z2x
noncomputable def prD (p:Int×Int):PyData:=.tuple [.int p.1,.int p.2]
theorem wQ (a b:Int×Int):PyData.eqv (prD a) (prD b)=decide (a=b):=by
 unfold prD
 rw[Hn,GA]
 simp[PyData.eqv,PyData.eqvAll,Prod.ext_iff]
theorem rG:∀ ps:List (Int×Int),PyData.canLayAll0 (Z8X)=true
 | []=>rfl
 | p::ps=>by
  rw[Gq]
  show (PyData.canLay0 ZLG && PyData.canLayAll0 Z8X)=true
  rw[rG ps];rfl
theorem rn:∀ ps:List (Int×Int),((Z8X).any λ y=>PyData.eqv y ZLG)=decide (p∈ps)
 | []=>rfl
 | a::ps=>by
  rw[Gq,Jb,rn ps,wQ,Hn,JJ,GA,GA,GA,FR]
  exact⟨λ h=>ZHj,λ h=>ZHj⟩
inductive rM (K:PySem.W.Frag) (x:V) (y:V) (H:Hp) (Q:VK):Prop
 | mk:∀ (b l:Addr) (p:Int×Int) (ps:List (Int×Int)),x=.ref b->y=.ref l->Rp K H Zj (ZLG)->Rp K H Zg (.list Z8X)->Q (.bl (decide (p∉ps))) H->rM K x y H Q
section
variable {X:Cx}{K:PySem.W.Frag}
theorem sX (V:X.A.units+64<cLine) (j:X.K=K:=by rfl):OpR X Z8D (rM K):=by
 subst j
 intro pins s σ H x y v u Q I O U h
 obtain⟨b,l,p,ps,rfl,rfl,L,J,q⟩:=h
 obtain⟨_,F⟩:=L.reads I O
 obtain⟨_,G⟩:=J.reads I U
 refine SeqAt.notIn_list_reads G F (rG ps) rfl ?_ ⟨.bl _,H,I,rfl,?_⟩
 ·have h1:min (PyData.depthAll Z8X) (ZLG).depth<=(ZLG).depth:=ZEw
  have h2:(ZLG).depth<=3:=by unfold prD;simp[PyData.depth,PyData.depthAll]
  lia
 ·rw[rn,<- decide_not];exact q
end
end L2
namespace B
open PySem L2
noncomputable def top (i:Nat):Stmt:=PySem.Challenge.pw_backline_k52_whole_told_once.main.body.getD i Z4Y
noncomputable abbrev EU:Stmt:=top 11
noncomputable abbrev DK:Stmt:=inClass (top 13) 0
noncomputable abbrev Ey:Stmt:=top 14
noncomputable abbrev DT:Stmt:=inClass (top 34) 0
noncomputable abbrev Bg:Stmt:=inClass (top 34) 1
noncomputable abbrev Cs:Stmt:=inClass (top 36) 0
noncomputable abbrev BO:Stmt:=inClass ZMQ 0
noncomputable abbrev EK:Stmt:=inClass ZMQ 1
noncomputable abbrev DM:Stmt:=inClass ZMQ 2
noncomputable abbrev DH:Stmt:=inClass Z3g 0
noncomputable abbrev Ec:Stmt:=inClass Z3g 1
noncomputable abbrev A0:Stmt:=inClass Z3g 2
noncomputable abbrev Bc:Stmt:=inClass Z3g 5
noncomputable abbrev CB:Stmt:=inClass Z3g 6
noncomputable abbrev EO:Stmt:=inClass Z3g 7
noncomputable abbrev AY:Stmt:=inClass Z3g 8
noncomputable abbrev A7:Stmt:=inClass Z3g 3
noncomputable abbrev AG:Stmt:=inClass Z3g 4
noncomputable abbrev Eb:Stmt:=inClass Z3g 9
noncomputable abbrev ED:Stmt:=inClass Z3g 10
noncomputable abbrev B6:Stmt:=inClass Z3g 11
noncomputable abbrev BU:Stmt:=top 39
noncomputable abbrev A6:Stmt:=top 40
noncomputable abbrev Cg:Stmt:=top 17
noncomputable abbrev Ei:Stmt:=inClass Z1N 14
noncomputable abbrev AI:Stmt:=inClass Z1N 17
noncomputable abbrev BV:Stmt:=inClass Z1N 15
noncomputable abbrev ER:Stmt:=inClass Z1N 18
noncomputable abbrev qz:Stmt:=inDef (top 41) 3
noncomputable abbrev Cy:Stmt:=inClass Z1N 16
noncomputable abbrev BG:Stmt:=inClass Z1N 1
noncomputable abbrev Cm:Stmt:=inClass Z1N 2
noncomputable abbrev D0:Stmt:=inClass Z1N 3
noncomputable abbrev B5:Stmt:=inClass Z1N 4
noncomputable abbrev B9:Stmt:=inClass Z1N 6
noncomputable abbrev D3:Stmt:=inClass Z1N 7
noncomputable abbrev AM:Stmt:=inClass Z1N 8
noncomputable abbrev DP:Stmt:=inClass Z1N 0
noncomputable abbrev DA:Stmt:=top 8
noncomputable abbrev ES:Stmt:=top 9
noncomputable abbrev DU:Stmt:=inClass Z1N 10
noncomputable abbrev Fl:Stmt:=top 20
noncomputable abbrev B2:Stmt:=inClass ZD9 0
noncomputable abbrev Fb:Stmt:=inClass ZD9 1
noncomputable abbrev Dl:Stmt:=inClass ZD9 2
noncomputable abbrev BJ:Stmt:=inClass ZD9 3
noncomputable abbrev CC:Stmt:=inClass ZD9 4
noncomputable abbrev Bi:Stmt:=top 22
noncomputable abbrev AB:Stmt:=top 23
noncomputable abbrev Ef:Stmt:=top 24
noncomputable abbrev CF:Stmt:=inClass Z1N 19
noncomputable abbrev CP:Stmt:=inClass Z1N 12
noncomputable abbrev EJ:Stmt:=inClass Z1N 13
noncomputable abbrev DB:Stmt:=top 26
noncomputable abbrev BZ:Stmt:=inClass Z1N 9
noncomputable abbrev Ba:Stmt:=inClass Z1N 11
noncomputable abbrev Fn:Stmt:=top 27
noncomputable abbrev B4:Stmt:=inClass ZGb 0
noncomputable abbrev D5:Stmt:=inClass ZGb 3
noncomputable abbrev Cj:Stmt:=inClass ZGb 1
noncomputable abbrev BI:Stmt:=inClass ZGb 2
noncomputable abbrev BE:Stmt:=top 30
noncomputable abbrev CM:Stmt:=top 41
noncomputable abbrev AD:Stmt:=top 42
noncomputable abbrev D6:Stmt:=top 43
noncomputable abbrev DN:Stmt:=top 44
noncomputable abbrev DJ:Stmt:=top 45
noncomputable abbrev Fe:Stmt:=top 46
noncomputable abbrev EN:Stmt:=top 47
noncomputable abbrev Bx:Stmt:=top 48
noncomputable abbrev C9:Stmt:=top 49
noncomputable abbrev yY:Stmt:=top 50
theorem Fi:cM ["value"] ["value"] (cI EU):=⟨rfl,rfl,rfl,by decide +kernel,rfl,by decide +kernel,by decide +kernel⟩
theorem AX:cM ["self","used","state","sent","said"] ["self","used","state","sent","said"] (cI DK):=⟨rfl,rfl,rfl,by decide +kernel,rfl,by decide +kernel,by decide +kernel⟩
theorem Az:cM ["event"] ["event"] (cI Ey):=⟨rfl,rfl,rfl,by decide +kernel,rfl,by decide +kernel,by decide +kernel⟩
theorem Co:cM ["self","down","here"] ["self","down","here"] (cI DT):=⟨rfl,rfl,rfl,by decide +kernel,rfl,by decide +kernel,by decide +kernel⟩
theorem Bq:cM ["self","down","here"] ["self","down","here"] (cI Bg):=⟨rfl,rfl,rfl,by decide +kernel,rfl,by decide +kernel,by decide +kernel⟩
theorem DI:cM ["self","down","here"] ["self","down","here"] (cI Cs):=⟨rfl,rfl,rfl,by decide +kernel,rfl,by decide +kernel,by decide +kernel⟩
theorem DC:cM ["self","size"] ["self","size"] (cI BO):=⟨rfl,rfl,rfl,by decide +kernel,rfl,by decide +kernel,by decide +kernel⟩
theorem EI:cM ["self","down","here"] ["self","down","here"] (cI EK):=⟨rfl,rfl,rfl,by decide +kernel,rfl,by decide +kernel,by decide +kernel⟩
theorem CQ:cM ["self","down","here"] ["self","down","here"] (cI DM):=⟨rfl,rfl,rfl,by decide +kernel,rfl,by decide +kernel,by decide +kernel⟩
theorem Ea:cM ["self","start","habit"] ["self","start","habit"] (cI DH):=⟨rfl,rfl,rfl,by decide +kernel,rfl,by decide +kernel,by decide +kernel⟩
theorem Ez:cM ["self"] ["self"] (cI Ec):=⟨rfl,rfl,rfl,by decide +kernel,rfl,by decide +kernel,by decide +kernel⟩
theorem CJ:cM ["self"] ["self"] (cI A0):=⟨rfl,rfl,rfl,by decide +kernel,rfl,by decide +kernel,by decide +kernel⟩
theorem zg:cM ["self","written"] ["self"] (cI Bc):=⟨rfl,rfl,rfl,by decide +kernel,rfl,by decide +kernel,by decide +kernel⟩
theorem BL:cM ["self","place"] ["self","place"] (cI CB):=⟨rfl,rfl,rfl,by decide +kernel,rfl,by decide +kernel,by decide +kernel⟩
theorem Df:cM ["self","place"] ["self","place"] (cI EO):=⟨rfl,rfl,rfl,by decide +kernel,rfl,by decide +kernel,by decide +kernel⟩
theorem DX:cM ["self","place"] ["self","place"] (cI AY):=⟨rfl,rfl,rfl,by decide +kernel,rfl,by decide +kernel,by decide +kernel⟩
theorem Dm:cM ["self","event"] ["self","event"] (cI A7):=⟨rfl,rfl,rfl,by decide +kernel,rfl,by decide +kernel,by decide +kernel⟩
theorem Ed:cM ["self"] ["self"] (cI AG):=⟨rfl,rfl,rfl,by decide +kernel,rfl,by decide +kernel,by decide +kernel⟩
theorem Fc:cM ["self","place","stands"] ["self","place","stands"] (cI Eb):=⟨rfl,rfl,rfl,by decide +kernel,rfl,by decide +kernel,by decide +kernel⟩
theorem Dh:cM ["self","place","stands"] ["self","place","stands"] (cI ED):=⟨rfl,rfl,rfl,by decide +kernel,rfl,by decide +kernel,by decide +kernel⟩
theorem yi:cM ["self","place","kept"] ["self","place"] (cI B6):=⟨rfl,rfl,rfl,by decide +kernel,rfl,by decide +kernel,by decide +kernel⟩
theorem Be:cM ["_law_script","_law_k"] ["_law_script","_law_k"] (cI BU):=⟨rfl,rfl,rfl,by decide +kernel,rfl,by decide +kernel,by decide +kernel⟩
theorem qN:cM ["_law_cell","_law_k","_law_number"] ["_law_cell","_law_k"] (cI A6):=⟨rfl,rfl,rfl,by decide +kernel,rfl,by decide +kernel,by decide +kernel⟩
theorem El:cM ["value"] ["value"] (cI Cg):=⟨rfl,rfl,rfl,by decide +kernel,rfl,by decide +kernel,by decide +kernel⟩
theorem Br:cM ["self","hand"] ["self","hand"] (cI Ei):=⟨rfl,rfl,rfl,by decide +kernel,rfl,by decide +kernel,by decide +kernel⟩
theorem E8:cM ["self","hand","row"] ["self","hand","row"] (cI AI):=⟨rfl,rfl,rfl,by decide +kernel,rfl,by decide +kernel,by decide +kernel⟩
theorem yJ:cM ["self","hand","name","way"] ["self","hand","name"] (cI BV):=⟨rfl,rfl,rfl,by decide +kernel,rfl,by decide +kernel,by decide +kernel⟩
theorem n9:cM ["self","sender","place","letters","k","letter","name","way"] ["self","sender","place","letters"] (cI ER):=⟨rfl,rfl,rfl,by decide +kernel,rfl,by decide +kernel,by decide +kernel⟩
theorem iL:lC ["_law_hand","_law_state","_law_word","_law_heard","_law_new","_law_digit","_law_letters","_law_many","_law_cell","_law_a","_law_b","_law_m"] ["_law_hand","_law_state","_law_word"] ["_law_many","_law_cell","_law_a","_law_b","_law_m"] (cI qz):=⟨rfl,rfl,rfl,by decide +kernel,rfl,rfl,Z4,by decide +kernel,by decide +kernel,by decide +kernel,by decide +kernel⟩
theorem BS:∀ x∈(["_law_many","_law_cell","_law_a","_law_b","_law_m"]:ZT),(cI (top 41)).names.lookup x=some .cell:=by decide +kernel
theorem rz:cM ["self","hand","name","word","thread","led","event"] ["self","hand","name","word"] (cI Cy):=⟨rfl,rfl,rfl,by decide +kernel,rfl,by decide +kernel,by decide +kernel⟩
theorem AH:cM ["self","hand"] ["self","hand"] (cI BG):=⟨rfl,rfl,rfl,by decide +kernel,rfl,by decide +kernel,by decide +kernel⟩
theorem Bs:cM ["self","hand","name"] ["self","hand","name"] (cI Cm):=⟨rfl,rfl,rfl,by decide +kernel,rfl,by decide +kernel,by decide +kernel⟩
theorem Bh:cM ["self","hand"] ["self","hand"] (cI D0):=⟨rfl,rfl,rfl,by decide +kernel,rfl,by decide +kernel,by decide +kernel⟩
theorem EH:cM ["self"] ["self"] (cI B5):=⟨rfl,rfl,rfl,by decide +kernel,rfl,by decide +kernel,by decide +kernel⟩
theorem Cu:cM ["self"] ["self"] (cI B9):=⟨rfl,rfl,rfl,by decide +kernel,rfl,by decide +kernel,by decide +kernel⟩
theorem CD:cM ["self"] ["self"] (cI D3):=⟨rfl,rfl,rfl,by decide +kernel,rfl,by decide +kernel,by decide +kernel⟩
theorem Cd:cM ["self"] ["self"] (cI AM):=⟨rfl,rfl,rfl,by decide +kernel,rfl,by decide +kernel,by decide +kernel⟩
theorem Bz:cM ["self","does","starts","habits","ordered"] ["self","does","starts","habits","ordered"] (cI DP):=⟨rfl,rfl,rfl,by decide +kernel,rfl,by decide +kernel,by decide +kernel⟩
theorem D9:cM ["line","name"] ["line","name"] (cI DA):=⟨rfl,rfl,rfl,by decide +kernel,rfl,by decide +kernel,by decide +kernel⟩
theorem DY:cM ["line","user","place"] ["line","user","place"] (cI ES):=⟨rfl,rfl,rfl,by decide +kernel,rfl,by decide +kernel,by decide +kernel⟩
theorem AW:cM ["self","hand"] ["self","hand"] (cI DU):=⟨rfl,rfl,rfl,by decide +kernel,rfl,by decide +kernel,by decide +kernel⟩
theorem nJ:cM ["loom","fallen","allowed","hand","here","points"] ["loom","fallen"] (cI Fl):=⟨rfl,rfl,rfl,by decide +kernel,rfl,by decide +kernel,by decide +kernel⟩
theorem Ff:cM ["self","loom","fallen"] ["self","loom","fallen"] (cI B2):=⟨rfl,rfl,rfl,by decide +kernel,rfl,by decide +kernel,by decide +kernel⟩
theorem Em:cM ["self"] ["self"] (cI Fb):=⟨rfl,rfl,rfl,by decide +kernel,rfl,by decide +kernel,by decide +kernel⟩
theorem ya:cM ["self","name","line"] ["self","name"] (cI Dl):=⟨rfl,rfl,rfl,by decide +kernel,rfl,by decide +kernel,by decide +kernel⟩
theorem Er:cM ["self","name"] ["self","name"] (cI BJ):=⟨rfl,rfl,rfl,by decide +kernel,rfl,by decide +kernel,by decide +kernel⟩
theorem yR:cM ["self","name","points"] ["self","name"] (cI CC):=⟨rfl,rfl,rfl,by decide +kernel,rfl,by decide +kernel,by decide +kernel⟩
theorem v8:cM ["loom","used","name"] ["loom"] (cI Bi):=⟨rfl,rfl,rfl,by decide +kernel,rfl,by decide +kernel,by decide +kernel⟩
theorem uB:cM ["used","line","hand","names"] ["used","line"] (cI AB):=⟨rfl,rfl,rfl,by decide +kernel,rfl,by decide +kernel,by decide +kernel⟩
theorem km:cM ["loom","fallen","descent","used","paper","sender","name"] ["loom","fallen"] (cI Ef):=⟨rfl,rfl,rfl,by decide +kernel,rfl,by decide +kernel,by decide +kernel⟩
theorem i4:cM ["self","told","events","place","event","hand"] ["self"] (cI CF):=⟨rfl,rfl,rfl,by decide +kernel,rfl,by decide +kernel,by decide +kernel⟩
theorem oP:cM ["self","line","fallen","hand","thread"] ["self","line","fallen"] (cI CP):=⟨rfl,rfl,rfl,by decide +kernel,rfl,by decide +kernel,by decide +kernel⟩
theorem Eu:cM ["self","hand","place"] ["self","hand","place"] (cI EJ):=⟨rfl,rfl,rfl,by decide +kernel,rfl,by decide +kernel,by decide +kernel⟩
theorem C4:cM ["loom"] ["loom"] (cI DB):=⟨rfl,rfl,rfl,by decide +kernel,rfl,by decide +kernel,by decide +kernel⟩
theorem BA:cM ["self","hand"] ["self","hand"] (cI BZ):=⟨rfl,rfl,rfl,by decide +kernel,rfl,by decide +kernel,by decide +kernel⟩
theorem CW:cM ["self"] ["self"] (cI Ba):=⟨rfl,rfl,rfl,by decide +kernel,rfl,by decide +kernel,by decide +kernel⟩
theorem rj:cM ["loom","hand","start","end","words","place","said"] ["loom","hand","start","end"] (cI Fn):=⟨rfl,rfl,rfl,by decide +kernel,rfl,by decide +kernel,by decide +kernel⟩
theorem DL:cM ["self","loom"] ["self","loom"] (cI B4):=⟨rfl,rfl,rfl,by decide +kernel,rfl,by decide +kernel,by decide +kernel⟩
theorem uR:cM ["self","hand","place"] ["self"] (cI D5):=⟨rfl,rfl,rfl,by decide +kernel,rfl,by decide +kernel,by decide +kernel⟩
theorem q5:cM ["self","told","hand","place"] ["self"] (cI Cj):=⟨rfl,rfl,rfl,by decide +kernel,rfl,by decide +kernel,by decide +kernel⟩
theorem Fm:cM ["self"] ["self"] (cI BI):=⟨rfl,rfl,rfl,by decide +kernel,rfl,by decide +kernel,by decide +kernel⟩
theorem yC:cM ["loom","fallen","found"] ["loom","fallen"] (cI BE):=⟨rfl,rfl,rfl,by decide +kernel,rfl,by decide +kernel,by decide +kernel⟩
theorem oG:cM ["_law_many","_law_cell","_law_a","_law_b","_law_m","_law_does"] ["_law_many","_law_cell"] (cI CM):=⟨rfl,rfl,rfl,by decide +kernel,rfl,by decide +kernel,by decide +kernel⟩
theorem qX:cM ["_law_many","_law_cell","_law_found","_law_hand","_law_number"] ["_law_many","_law_cell"] (cI AD):=⟨rfl,rfl,rfl,by decide +kernel,rfl,by decide +kernel,by decide +kernel⟩
theorem pf:cM ["_law_script","_law_cell","_law_many","_law_starts","_law_habits_here"] ["_law_script"] (cI D6):=⟨rfl,rfl,rfl,by decide +kernel,rfl,by decide +kernel,by decide +kernel⟩
theorem kB:cM ["_law_loom_here","_law_sent","_law_found","_law_ways","_law_name","_law_way","_law_hands"] ["_law_loom_here"] (cI DN):=⟨rfl,rfl,rfl,by decide +kernel,rfl,by decide +kernel,by decide +kernel⟩
theorem EC:cM ["_law_loom_here","_law_row"] ["_law_loom_here","_law_row"] (cI DJ):=⟨rfl,rfl,rfl,by decide +kernel,rfl,by decide +kernel,by decide +kernel⟩
theorem EA:cM ["_law_many","_law_number"] ["_law_many","_law_number"] (cI Fe):=⟨rfl,rfl,rfl,by decide +kernel,rfl,by decide +kernel,by decide +kernel⟩
theorem l4:cM ["_law_loom_here","_law_base","_law_last","_law_found","_law_hand","_law_words","_law_place","_law_word"] ["_law_loom_here","_law_base","_law_last"] (cI EN):=⟨rfl,rfl,rfl,by decide +kernel,rfl,by decide +kernel,by decide +kernel⟩
theorem jP:cM ["_law_loom_here","_law_told","_law_events","_law_hand","_law_place","_law_word","_law_words"] ["_law_loom_here","_law_told"] (cI Bx):=⟨rfl,rfl,rfl,by decide +kernel,rfl,by decide +kernel,by decide +kernel⟩
theorem jh:cM ["_law_keeper","_law_loom_here","_law_last","_law_told","_law_base","_law_due_here","_law_rows","_law_points","_law_hand","_law_words","_law_found"] ["_law_keeper","_law_loom_here","_law_last","_law_told"] (cI C9):=⟨rfl,rfl,rfl,by decide +kernel,rfl,by decide +kernel,by decide +kernel⟩
theorem gh:cM ["_law_script","_law_loom_here","_law_keepers","_law_later","_law_lasts","_law_told","_law_k","_law_number","_law_which","_law_options_here"] ["_law_script"] (cI yY):=⟨rfl,rfl,rfl,by decide +kernel,rfl,by decide +kernel,by decide +kernel⟩
theorem BW:bootBuiltins "all" = some (.builtin "all"):=by decide +kernel
theorem Ab:bootBuiltins "bool" = some (.type "bool"):=by decide +kernel
theorem uA:bootBuiltins "dict" = some (.type "dict"):=by decide +kernel
theorem DV:bootBuiltins "int" = some (.type "int"):=by decide +kernel
theorem fQ:bootBuiltins "isinstance" = some (.builtin "isinstance"):=by decide +kernel
theorem jM:bootBuiltins "len" = some (.builtin "len"):=by decide +kernel
theorem jG:bootBuiltins "list" = some (.type "list"):=by decide +kernel
theorem wC:bootBuiltins "max" = some (.builtin "max"):=by decide +kernel
theorem yd:bootBuiltins "min" = some (.builtin "min"):=by decide +kernel
theorem nv:bootBuiltins "range" = some (.type "range"):=by decide +kernel
theorem yw:bootBuiltins "set" = some (.type "set"):=by decide +kernel
theorem kh:bootBuiltins "sorted" = some (.builtin "sorted"):=by decide +kernel
theorem qO:bootBuiltins "tuple" = some (.type "tuple"):=by decide +kernel
def Dz (K:W.Frag) (c p:Addr):Prop:=∃ oq oe vq sq,K.lookup c=some ⟨oq,oe,.fields vq,sq⟩/\vq[11]? = some Zs
set_option genInjectivity false in
set_option genSizeOf false in
structure Adr where
 c_Bundle:Addr
 c_Descent:Addr
 c_Each:Addr
 c_Event:Addr
 c_Keeper:Addr
 c_Loom:Addr
 c_Never:Addr
 c_Thread:Addr
 f_ay:Addr
 f_az:Addr
 f_dm:Addr
 f_cr:Addr
 f_dt:Addr
 f_cc:Addr
 f_cd:Addr
 f_bc:Addr
 f_db:Addr
 f_bj:Addr
 f_bd:Addr
 f_aw:Addr
 f_ao:Addr
 f_ap:Addr
 f_ax:Addr
 f_cs:Addr
 f_ah:Addr
 f_du:Addr
 f_de:Addr
 f_dn:Addr
 f_dp:Addr
 f_cu:Addr
 f_ce:Addr
 f_dd:Addr
 f_aj:Addr
 f_ak:Addr
 f_bg:Addr
 f_cf:Addr
 f_df:Addr
 f_cv:Addr
 f_an:Addr
 f_aq:Addr
 f_bn:Addr
 f_bo:Addr
 f_be:Addr
 f_dc:Addr
 f_af:Addr
 f_ba:Addr
 f_bp:Addr
 f_ar:Addr
 f_ad:Addr
 f_al:Addr
 f_bq:Addr
 f_br:Addr
 f_am:Addr
 f_bf:Addr
 f_dv:Addr
 f_bh:Addr
 f_cg:Addr
 f_ch:Addr
 f_bt:Addr
 f_bs:Addr
 f_dw:Addr
 f_ag:Addr
 f_ac:Addr
 f_ai:Addr
 f_cb:Addr
 f_ae:Addr
 f_aa:Addr
 f_bk:Addr
 f_ct:Addr
 f_bu:Addr
 f_ci:Addr
 f_dg:Addr
 f_bv:Addr
 f_dq:Addr
 f_dh:Addr
 f_dr:Addr
 f_as:Addr
 f_cw:Addr
 f_law:Addr
 cd_bu:Addr
 tb_bu:Addr
 ts:Zq
 fd_dm:FuncData
 fd_cr:FuncData
 fd_dt:FuncData
 fd_ag:FuncData
 fd_ac:FuncData
 fd_ai:FuncData
 fd_cb:FuncData
 fd_ae:FuncData
 fd_aa:FuncData
 fd_cc:FuncData
 fd_cd:FuncData
 fd_bc:FuncData
 fd_bd:FuncData
 fd_aw:FuncData
 fd_ao:FuncData
 fd_ap:FuncData
 fd_db:FuncData
 fd_bj:FuncData
 fd_ax:FuncData
 fd_cs:FuncData
 fd_ah:FuncData
 fd_bk:FuncData
 fd_ct:FuncData
 fd_du:FuncData
 fd_aq:FuncData
 fd_be:FuncData
 fd_bn:FuncData
 fd_dc:FuncData
 fd_bo:FuncData
 fd_dn:FuncData
 fd_dp:FuncData
 fd_cu:FuncData
 fd_ce:FuncData
 fd_dd:FuncData
 fd_aj:FuncData
 fd_ak:FuncData
 fd_de:FuncData
 fd_ay:FuncData
 fd_az:FuncData
 fd_cf:FuncData
 fd_ba:FuncData
 fd_bp:FuncData
 fd_ar:FuncData
 fd_ad:FuncData
 fd_al:FuncData
 fd_bq:FuncData
 fd_br:FuncData
 fd_am:FuncData
 fd_bf:FuncData
 fd_af:FuncData
 fd_cv:FuncData
 fd_an:FuncData
 fd_dv:FuncData
 fd_bg:FuncData
 fd_df:FuncData
 fd_bh:FuncData
 fd_cg:FuncData
 fd_bs:FuncData
 fd_ch:FuncData
 fd_bt:FuncData
 fd_dw:FuncData
 fd_bu:FuncData
 fd_ci:FuncData
 fd_dg:FuncData
 fd_bv:FuncData
 fd_dq:FuncData
 fd_dh:FuncData
 fd_dr:FuncData
 fd_as:FuncData
 fd_cw:FuncData
 fd_law:FuncData
set_option genInjectivity false in
set_option genSizeOf false in
structure Txt (K:W.Frag) (mg:Str->Option Value) (t:Adr):Prop where
 no_isinstance:mg "isinstance" = none
 no_bool:mg "bool" = none
 no_int:mg "int" = none
 na_cz:dr K t.c_Event "used"
 cl_Event:Cls K t.c_Event
 na_ck:dr K t.c_Event "state"
 na_cy:dr K t.c_Event "sent"
 no_tuple:mg "tuple" = none
 na_cx:dr K t.c_Event "said"
 no_list:mg "list" = none
 mk_Event:Mk K t.c_Event t.f_cr
 mg_Event:mg "Event" = some (.ref t.c_Event)
 b_cr:Binds K t.fd_cr ["self","used","state","sent","said"] []
 mg_dm:mg "is_whole" = some ZMl
 kp_dm:W.keepIn K ZMl=true
 b_dm:Binds K t.fd_dm ["value"] []
 mv_SMALLEST_SIZE:∃ t,mg "SMALLEST_SIZE" = some (.int 1 t)
 mv_GREATEST_SIZE:∃ t,mg "GREATEST_SIZE" = some (.int 20 t)
 na_cj:dr K t.c_Bundle "size"
 cl_Bundle:Cls K t.c_Bundle
 na_bz:dr K t.c_Thread "first"
 cl_Thread:Cls K t.c_Thread
 na_ca:dr K t.c_Thread "habit"
 na_cp:dr K t.c_Thread "done"
 na_av:dr K t.c_Thread "writings"
 na_cq:dr K t.c_Thread "down"
 no_len:mg "len" = none
 mg_dt:mg "copy_of" = some ZMi
 kp_dt:W.keepIn K ZMi=true
 b_dt:Binds K t.fd_dt ["event"] []
 no_range:mg "range" = none
 no_sorted:mg "sorted" = none
 no_set:mg "set" = none
 me_cd:Meth K t.c_Thread "here" t.f_cd
 b_cd:Binds K t.fd_cd ["self"] []
 me_aw:Meth K t.c_Thread "is_here" t.f_aw
 b_aw:Binds K t.fd_aw ["self","place"] []
 me_ao:Meth K t.c_Thread "is_point" t.f_ao
 b_ao:Binds K t.fd_ao ["self","place"] []
 me_ae:Meth K t.c_Bundle "down_by_deed" t.f_ae
 b_ae:Binds K t.fd_ae ["self","down","here"] []
 cl_Each:Cls K t.c_Each
 me_ai:Meth K t.c_Each "down_by_deed" t.f_ai
 b_ai:Binds K t.fd_ai ["self","down","here"] []
 cl_Never:Cls K t.c_Never
 me_Never_down_by_deed:Meth K t.c_Never "down_by_deed" t.f_ag
 b_ag:Binds K t.fd_ag ["self","down","here"] []
 me_aa:Meth K t.c_Bundle "down_by_writing" t.f_aa
 b_aa:Binds K t.fd_aa ["self","down","here"] []
 me_Each_down_by_writing:Meth K t.c_Each "down_by_writing" t.f_ac
 b_ac:Binds K t.fd_ac ["self","down","here"] []
 me_Never_down_by_writing:Meth K t.c_Never "down_by_writing" t.f_ac
 me_ax:Meth K t.c_Thread "can_cut" t.f_ax
 b_ax:Binds K t.fd_ax ["self","place","stands"] []
 no_min:mg "min" = none
 no_max:mg "max" = none
 no_all:mg "all" = none
 na_dk:dr K t.c_Loom "many"
 cl_Loom:Cls K t.c_Loom
 na_bx:dr K t.c_Loom "threads"
 na_ds:dr K t.c_Loom "log"
 mg_du:mg "is_name" = some ZMh
 kp_du:W.keepIn K ZMh=true
 b_du:Binds K t.fd_du ["value"] []
 na_dl:dr K t.c_Loom "ways"
 na_bw:dr K t.c_Loom "ordered"
 no_enumerate:mg "enumerate" = none
 na_co:dr K t.c_Loom "posted"
 na_da:dr K t.c_Loom "taken"
 mg_ct:mg "_law_mixed" = some ZMp
 kp_ct:W.keepIn K ZMp=true
 b_ct:Binds K t.fd_ct ["_law_cell","_law_k"] []
 na_dj:dr K t.c_Loom "does"
 me_ap:Meth K t.c_Thread "state_at" t.f_ap
 b_ap:Binds K t.fd_ap ["self","place"] []
 me_db:Meth K t.c_Thread "do" t.f_db
 b_db:Binds K t.fd_db ["self","event"] []
 me_dc:Meth K t.c_Loom "post" t.f_dc
 b_dc:Binds K t.fd_dc ["self","sender","place","letters"] []
 me_aq:Meth K t.c_Loom "check_hand" t.f_aq
 b_aq:Binds K t.fd_aq ["self","hand"] []
 me_bo:Meth K t.c_Loom "do_deed" t.f_bo
 b_bo:Binds K t.fd_bo ["self","hand","name","word"] []
 me_be:Meth K t.c_Loom "note_row" t.f_be
 b_be:Binds K t.fd_be ["self","hand","row"] []
 me_bn:Meth K t.c_Loom "may_use" t.f_bn
 b_bn:Binds K t.fd_bn ["self","hand","name"] []
 me_bj:Meth K t.c_Thread "write" t.f_bj
 b_bj:Binds K t.fd_bj ["self"] []
 no_dict:mg "dict" = none
 no_zip:mg "zip" = none
 mk_Thread:Mk K t.c_Thread t.f_cc
 mg_Thread:mg "Thread" = some (.ref t.c_Thread)
 b_cc:Binds K t.fd_cc ["self","start","habit"] []
 me_bd:Meth K t.c_Thread "points" t.f_bd
 b_bd:Binds K t.fd_bd ["self"] []
 me_ce:Meth K t.c_Loom "places" t.f_ce
 b_ce:Binds K t.fd_ce ["self"] []
 me_cf:Meth K t.c_Loom "points" t.f_cf
 b_cf:Binds K t.fd_cf ["self","hand"] []
 na_bb:dr K t.c_Descent "posted"
 cl_Descent:Cls K t.c_Descent
 me_aj:Meth K t.c_Loom "letters_sent" t.f_aj
 b_aj:Binds K t.fd_aj ["self"] []
 na_bi:dr K t.c_Descent "taken"
 me_ak:Meth K t.c_Loom "letters_used" t.f_ak
 b_ak:Binds K t.fd_ak ["self"] []
 na_au:dr K t.c_Descent "allowed"
 mg_ba:mg "allowed_points" = some ZMx
 kp_ba:W.keepIn K ZMx=true
 b_ba:Binds K t.fd_ba ["loom","fallen"] []
 me_ar:Meth K t.c_Descent "reached" t.f_ar
 b_ar:Binds K t.fd_ar ["self"] []
 mg_ay:mg "is_sent_within" = some ZMz
 kp_ay:W.keepIn K ZMz=true
 b_ay:Binds K t.fd_ay ["line","name"] []
 mg_az:mg "is_used_within" = some ZMy
 kp_az:W.keepIn K ZMy=true
 b_az:Binds K t.fd_az ["line","user","place"] []
 mk_Descent:Mk K t.c_Descent t.f_bp
 mg_Descent:mg "Descent" = some (.ref t.c_Descent)
 b_bp:Binds K t.fd_bp ["self","loom","fallen"] []
 mg_br:mg "used_of_each" = some ZMt
 kp_br:W.keepIn K ZMt=true
 b_br:Binds K t.fd_br ["loom"] []
 mg_am:mg "sender_gone_back" = some ZN1
 kp_am:W.keepIn K ZN1=true
 b_am:Binds K t.fd_am ["used","line"] []
 me_ad:Meth K t.c_Descent "is_broken_by" t.f_ad
 b_ad:Binds K t.fd_ad ["self","name"] []
 me_al:Meth K t.c_Descent "can_step" t.f_al
 b_al:Binds K t.fd_al ["self","name"] []
 me_bq:Meth K t.c_Descent "step" t.f_bq
 b_bq:Binds K t.fd_bq ["self","name"] []
 me_bc:Meth K t.c_Thread "events" t.f_bc
 b_bc:Binds K t.fd_bc ["self"] []
 me_cs:Meth K t.c_Thread "cut" t.f_cs
 b_cs:Binds K t.fd_cs ["self","place","stands"] []
 me_af:Meth K t.c_Loom "reckon_letters" t.f_af
 b_af:Binds K t.fd_af ["self"] []
 me_ah:Meth K t.c_Thread "throw_ahead" t.f_ah
 b_ah:Binds K t.fd_ah ["self","place"] []
 mg_bf:mg "greatest_line" = some ZMw
 kp_bf:W.keepIn K ZMw=true
 b_bf:Binds K t.fd_bf ["loom","fallen"] []
 me_bg:Meth K t.c_Loom "words_of" t.f_bg
 b_bg:Binds K t.fd_bg ["self","hand"] []
 na_cm:dr K t.c_Keeper "loom"
 cl_Keeper:Cls K t.c_Keeper
 na_cn:dr K t.c_Keeper "told"
 na_cl:dr K t.c_Keeper "ends"
 mg_dv:mg "base_of" = some ZMg
 kp_dv:W.keepIn K ZMg=true
 b_dv:Binds K t.fd_dv ["loom"] []
 me_an:Meth K t.c_Loom "throw_ahead" t.f_an
 b_an:Binds K t.fd_an ["self","hand","place"] []
 mg_bh:mg "words_between" = some ZMv
 kp_bh:W.keepIn K ZMv=true
 b_bh:Binds K t.fd_bh ["loom","hand","start","end"] []
 me_cv:Meth K t.c_Loom "go_to" t.f_cv
 b_cv:Binds K t.fd_cv ["self","line","fallen"] []
 mk_Bundle:Mk K t.c_Bundle t.f_cb
 mg_Bundle:mg "Bundle" = some (.ref t.c_Bundle)
 b_cb:Binds K t.fd_cb ["self","size"] []
 mk_Each:MkO K t.c_Each
 mg_Each:mg "Each" = some (.ref t.c_Each)
 mk_Never:MkO K t.c_Never
 mg_Never:mg "Never" = some (.ref t.c_Never)
 mg_bk:mg "_law_cell_at" = some ZMu
 kp_bk:W.keepIn K ZMu=true
 b_bk:Binds K t.fd_bk ["_law_script","_law_k"] []
 mg_ci:mg "_law_habits" = some ZMq
 kp_ci:W.keepIn K ZMq=true
 b_ci:Binds K t.fd_ci ["_law_many","_law_cell"] []
 mg_bu:mg "_law_program" = some ZMs
 kp_bu:W.keepIn K ZMs=true
 b_bu:Binds K t.fd_bu ["_law_many","_law_cell"] []
 mk_Loom:Mk K t.c_Loom t.f_de
 mg_Loom:mg "Loom" = some (.ref t.c_Loom)
 b_de:Binds K t.fd_de ["self","does","starts","habits","ordered"] []
 me_dd:Meth K t.c_Loom "road" t.f_dd
 b_dd:Binds K t.fd_dd ["self"] []
 me_dn:Meth K t.c_Loom "own" t.f_dn
 b_dn:Binds K t.fd_dn ["self","hand"] []
 me_dp:Meth K t.c_Loom "use" t.f_dp
 b_dp:Binds K t.fd_dp ["self","hand","name"] []
 me_cu:Meth K t.c_Loom "write" t.f_cu
 b_cu:Binds K t.fd_cu ["self","hand"] []
 mg_dr:mg "_law_due" = some ZMj
 kp_dr:W.keepIn K ZMj=true
 b_dr:Binds K t.fd_dr ["_law_loom_here","_law_base","_law_last"] []
 me_df:Meth K t.c_Loom "rows" t.f_df
 b_df:Binds K t.fd_df ["self"] []
 me_ch:Meth K t.c_Keeper "tell" t.f_ch
 b_ch:Binds K t.fd_ch ["self"] []
 me_bt:Meth K t.c_Keeper "heard" t.f_bt
 b_bt:Binds K t.fd_bt ["self"] []
 mg_dg:mg "_law_loom" = some ZMn
 kp_dg:W.keepIn K ZMn=true
 b_dg:Binds K t.fd_dg ["_law_script"] []
 mk_Keeper:Mk K t.c_Keeper t.f_cg
 mg_Keeper:mg "Keeper" = some (.ref t.c_Keeper)
 b_cg:Binds K t.fd_cg ["self","loom"] []
 mg_dh:mg "_law_some" = some ZMm
 kp_dh:W.keepIn K ZMm=true
 b_dh:Binds K t.fd_dh ["_law_many","_law_number"] []
 mg_dw:mg "fall" = some ZMf
 kp_dw:W.keepIn K ZMf=true
 b_dw:Binds K t.fd_dw ["loom","fallen"] []
 me_bs:Meth K t.c_Keeper "throw" t.f_bs
 b_bs:Binds K t.fd_bs ["self"] []
 mg_cw:mg "_law_tells" = some ZMo
 kp_cw:W.keepIn K ZMo=true
 b_cw:Binds K t.fd_cw ["_law_keeper","_law_loom_here","_law_last","_law_told"] []
 mg_bv:mg "_law_options" = some ZMr
 kp_bv:W.keepIn K ZMr=true
 b_bv:Binds K t.fd_bv ["_law_loom_here"] []
 mg_dq:mg "_law_act" = some ZMk
 kp_dq:W.keepIn K ZMk=true
 b_dq:Binds K t.fd_dq ["_law_loom_here","_law_row"] []
 mg_as:mg "_law_still_said" = some ZN0
 kp_as:W.keepIn K ZN0=true
 b_as:Binds K t.fd_as ["_law_loom_here","_law_told"] []
 F_dm:Fun K "is_whole" "is_whole" EU t.f_dm t.fd_dm
 F_cr:Fun K "__init__" "Event.__init__" DK t.f_cr t.fd_cr
 F_dt:Fun K "copy_of" "copy_of" Ey t.f_dt t.fd_dt
 F_ag:Fun K "down_by_deed" "Habit.down_by_deed" DT t.f_ag t.fd_ag
 F_ac:Fun K "down_by_writing" "Habit.down_by_writing" Bg t.f_ac t.fd_ac
 F_ai:Fun K "down_by_deed" "Each.down_by_deed" Cs t.f_ai t.fd_ai
 F_cb:Fun K "__init__" "Bundle.__init__" BO t.f_cb t.fd_cb
 F_ae:Fun K "down_by_deed" "Bundle.down_by_deed" EK t.f_ae t.fd_ae
 F_aa:Fun K "down_by_writing" "Bundle.down_by_writing" DM t.f_aa t.fd_aa
 F_cc:Fun K "__init__" "Thread.__init__" DH t.f_cc t.fd_cc
 F_cd:Fun K "here" "Thread.here" Ec t.f_cd t.fd_cd
 F_bc:Fun K "events" "Thread.events" A0 t.f_bc t.fd_bc
 F_bd:Fun K "points" "Thread.points" Bc t.f_bd t.fd_bd
 F_aw:Fun K "is_here" "Thread.is_here" CB t.f_aw t.fd_aw
 F_ao:Fun K "is_point" "Thread.is_point" EO t.f_ao t.fd_ao
 F_ap:Fun K "state_at" "Thread.state_at" AY t.f_ap t.fd_ap
 F_db:Fun K "do" "Thread.do" A7 t.f_db t.fd_db
 F_bj:Fun K "write" "Thread.write" AG t.f_bj t.fd_bj
 F_ax:Fun K "can_cut" "Thread.can_cut" Eb t.f_ax t.fd_ax
 F_cs:Fun K "cut" "Thread.cut" ED t.f_cs t.fd_cs
 F_ah:Fun K "throw_ahead" "Thread.throw_ahead" B6 t.f_ah t.fd_ah
 F_bk:Fun K "_law_cell_at" "_law_cell_at" BU t.f_bk t.fd_bk
 F_ct:Fun K "_law_mixed" "_law_mixed" A6 t.f_ct t.fd_ct
 F_du:Fun K "is_name" "is_name" Cg t.f_du t.fd_du
 F_aq:Fun K "check_hand" "Loom.check_hand" Ei t.f_aq t.fd_aq
 F_be:Fun K "note_row" "Loom.note_row" AI t.f_be t.fd_be
 F_bn:Fun K "may_use" "Loom.may_use" BV t.f_bn t.fd_bn
 F_dc:Fun K "post" "Loom.post" ER t.f_dc t.fd_dc
 F_bo:Fun K "do_deed" "Loom.do_deed" Cy t.f_bo t.fd_bo
 F_dn:Fun K "own" "Loom.own" BG t.f_dn t.fd_dn
 F_dp:Fun K "use" "Loom.use" Cm t.f_dp t.fd_dp
 F_cu:Fun K "write" "Loom.write" D0 t.f_cu t.fd_cu
 F_ce:Fun K "places" "Loom.places" B5 t.f_ce t.fd_ce
 F_dd:Fun K "road" "Loom.road" B9 t.f_dd t.fd_dd
 F_aj:Fun K "letters_sent" "Loom.letters_sent" D3 t.f_aj t.fd_aj
 F_ak:Fun K "letters_used" "Loom.letters_used" AM t.f_ak t.fd_ak
 F_de:Fun K "__init__" "Loom.__init__" DP t.f_de t.fd_de
 F_ay:Fun K "is_sent_within" "is_sent_within" DA t.f_ay t.fd_ay
 F_az:Fun K "is_used_within" "is_used_within" ES t.f_az t.fd_az
 F_cf:Fun K "points" "Loom.points" DU t.f_cf t.fd_cf
 F_ba:Fun K "allowed_points" "allowed_points" Fl t.f_ba t.fd_ba
 F_bp:Fun K "__init__" "Descent.__init__" B2 t.f_bp t.fd_bp
 F_ar:Fun K "reached" "Descent.reached" Fb t.f_ar t.fd_ar
 F_ad:Fun K "is_broken_by" "Descent.is_broken_by" Dl t.f_ad t.fd_ad
 F_al:Fun K "can_step" "Descent.can_step" BJ t.f_al t.fd_al
 F_bq:Fun K "step" "Descent.step" CC t.f_bq t.fd_bq
 F_br:Fun K "used_of_each" "used_of_each" Bi t.f_br t.fd_br
 F_am:Fun K "sender_gone_back" "sender_gone_back" AB t.f_am t.fd_am
 F_bf:Fun K "greatest_line" "greatest_line" Ef t.f_bf t.fd_bf
 F_af:Fun K "reckon_letters" "Loom.reckon_letters" CF t.f_af t.fd_af
 F_cv:Fun K "go_to" "Loom.go_to" CP t.f_cv t.fd_cv
 F_an:Fun K "throw_ahead" "Loom.throw_ahead" EJ t.f_an t.fd_an
 F_dv:Fun K "base_of" "base_of" DB t.f_dv t.fd_dv
 F_bg:Fun K "words_of" "Loom.words_of" BZ t.f_bg t.fd_bg
 F_df:Fun K "rows" "Loom.rows" Ba t.f_df t.fd_df
 F_bh:Fun K "words_between" "words_between" Fn t.f_bh t.fd_bh
 F_cg:Fun K "__init__" "Keeper.__init__" B4 t.f_cg t.fd_cg
 F_bs:Fun K "throw" "Keeper.throw" D5 t.f_bs t.fd_bs
 F_ch:Fun K "tell" "Keeper.tell" Cj t.f_ch t.fd_ch
 F_bt:Fun K "heard" "Keeper.heard" BI t.f_bt t.fd_bt
 F_dw:Fun K "fall" "fall" BE t.f_dw t.fd_dw
 F_bu:Fun K "_law_program" "_law_program" CM t.f_bu t.fd_bu
 F_ci:Fun K "_law_habits" "_law_habits" AD t.f_ci t.fd_ci
 F_dg:Fun K "_law_loom" "_law_loom" D6 t.f_dg t.fd_dg
 F_bv:Fun K "_law_options" "_law_options" DN t.f_bv t.fd_bv
 F_dq:Fun K "_law_act" "_law_act" DJ t.f_dq t.fd_dq
 F_dh:Fun K "_law_some" "_law_some" Fe t.f_dh t.fd_dh
 F_dr:Fun K "_law_due" "_law_due" EN t.f_dr t.fd_dr
 F_as:Fun K "_law_still_said" "_law_still_said" Bx t.f_as t.fd_as
 F_cw:Fun K "_law_tells" "_law_tells" C9 t.f_cw t.fd_cw
 F_law:Fun K "law" "law" yY t.f_law t.fd_law
 b_law:Binds K t.fd_law ["_law_script"] []
 tab_bu:W.codeHdIn K t.cd_bu t.tb_bu=true
 tn_bu:K.lookup t.tb_bu=none
 tin_bu:t.tb_bu∈t.ts
 cde_bu:t.fd_bu.code=.ref t.cd_bu
 tall:∀ P∈t.ts,P∈[t.tb_bu]
 ik_Bundle:xb K t.c_Bundle
 ik_Each:xb K t.c_Each
 ik_Event:xb K t.c_Event
 ik_Never:xb K t.c_Never
 ki_b:W.kitOne K (.type "int") (.type "bool")=some false
 tq_bu:Dz K t.cd_bu t.tb_bu
structure zI (mg:Str->Option Value) (base:Heap) (t:Adr):Prop where
 tb_bu:Tab mg base t.cd_bu t.tb_bu
section
variable {P:Program}{w:World}{K:W.Frag}{mg:Str->Option Value}{base:Heap}{t:Adr}
variable {ts:List Addr}
theorem sq (h:∀ r,r=b->sM a r D σ H):sM a b D σ H:=h b rfl
theorem sn (e:r=sM a b) (h:∀ r,r=b->sM a r D σ H):r D σ H:=by subst e;exact h b rfl
def E5:Sp:=λ vs H Q _=>∃ i,vs=[Z08]/\Q Z2N H
theorem pC (T:ZJ):dk P w K mg base ZM 1 t.f_dm t.fd_dm ["value"] E5:=by
 refine T.F_dm.okN Fi Z6 Z0d
 ·obtain⟨i,rfl,_⟩:=h;rfl
 ·obtain⟨i,rfl,k⟩:=h
  refine⟨_,(cE (cQ (kT (dB ZAh rfl T.no_isinstance fQ (cF ZX (cF (j7 (v:=.ty "int") rfl T.no_int DV rfl) cC))) (jx (qp (dB ZAh rfl T.no_isinstance fQ (cF ZX (cF (j7 (v:=.ty "bool") rfl T.no_bool Ab rfl) cC)))))))),?_⟩
  refine⟨_,rfl,_,_,.plain Z08,iq _ _,_,rfl,fC ?_⟩
  exact⟨_,rfl,_,_,.plain Z08,T.ki_b,_,rfl,k⟩
theorem iA {H:Hp}{p a C dx:Addr}{fs fs':List (Str×V)}{xs:Z04}(hp:H p=some Z0A) (h:Z94):SqL K ZBf a xs:=by
 rcases h with (h|⟨o,h⟩)|h
 ·exact .inl (.inl (by rw[Z6O];exact h))
 ·exact .inl (.inr ⟨o,by rw[Z6O];exact h⟩)
 ·exact ZAZ
theorem wU {H:Hp}{p a C dx:Addr}{fs fs':List (Str×V)}{xs:Z04}(hp:H p=some Z0A) (h:ZE1):SqT K ZBf a xs:=by
 rcases h with (h|⟨o,h⟩)|h
 ·exact .inl (.inl (by rw[Z6O];exact h))
 ·exact .inl (.inr ⟨o,by rw[Z6O];exact h⟩)
 ·exact ZAZ
theorem fZ (h:fs.length<=n) (j:n<999):(ZA9).length<1000:=by
 have:=dE f v fs
 lia
noncomputable def evF (v:V) (st:Int) (l1 l2:Addr):List (Str×V):=cL "said" (.ref l2) (cL "sent" (.ref l1) (cL "state" (ZJQ) (cL "used" v [])))
def E3 (K:W.Frag) (t:Adr):Sp:=λ vs H Q _=>∃ p dx v st a b xs ys,vs=[Zs,v,ZJQ,Z_,Zj]/\H p=some (.ins t.c_Event dx [])/\SqL K H a xs/\xs.length<=1000/\(∀ x∈xs,∃ q zs,x=.ref q/\SqT K H q zs)/\SqL K H b ys /\
 ∀ l1 l2 H',H l1=none->H l2=none->l1≠l2->(∀ c,H' c=if c=p then some (.ins t.c_Event dx Z51) else if c=l1 then some ZQ else if c=l2 then some Zb else H c)->Q .non H'
theorem yr (T:ZJ):dk P w K mg base ZM 1 t.f_cr t.fd_cr ["self","used","state","sent","said"] (E3 K t):=by
 refine T.F_cr.okN AX Z6 Z1B
 ·obtain⟨p,dx,v,st,a,b,xs,ys,rfl,_⟩:=h;rfl
 ·obtain⟨p,dx,v,st,a,b,xs,ys,rfl,hp,ha,a3,hx,hb,k⟩:=h
  refine⟨_,(cD Z2C
   (cD ZEZ
   (cD (dj (K:=K) ZX (dH ["self","used","state","sent","said","letter"] 1 rfl (dD (K:=K) Z1E) (λ _ _ _ _ _=>⟨(cN (i:=5) (show List.Nodup (["self","used","state","sent","said","letter"]:ZT) from by decide +kernel) rfl Z5),dG,(dP (pF (K:=K)) rfl T.no_tuple qO Z4c)⟩)) rfl)
   (cE (dj (K:=K) ZX (dP (kr (K:=K)) rfl T.no_list jG Z3a) rfl))))),?_⟩
  refine⟨_,rfl,_,rfl,p,_,dx,_,rfl,hp,T.cl_Event,T.na_cz,Z4,?_⟩
  refine⟨_,rfl,_,rfl,p,_,dx,_,rfl,cy,T.cl_Event,T.na_ck,ZI_,?_⟩
  rw[gv]
  have U:SqL K (upd H p (HO.ins t.c_Event dx (cL "state" (ZCj) (cL "used" v [])))) a xs:=iA hp ha
  have Z:SqL K (upd H p (HO.ins t.c_Event dx (cL "state" (ZCj) (cL "used" v [])))) b ys:=iA hp hb
  have a2:∀ x∈xs,∃ q zs,x=.ref q/\SqT K (upd H p (HO.ins t.c_Event dx (cL "state" (ZCj) (cL "used" v [])))) q zs:=λ x m=>let ⟨q,zs,e,h⟩:=hx x m;⟨q,zs,e,wU hp h⟩
  have G:upd H p (HO.ins t.c_Event dx (cL "state" (ZCj) (cL "used" v []))) p=_:=cy
  generalize O:upd H p (HO.ins t.c_Event dx (cL "state" (V.int st) (cL "used" v [])))=H1 at U Z a2 G ⊢
  refine⟨_,rfl,a,rfl,⟨_,U⟩,dU (xs:=xs) a3 λ acc j=>⟨λ i L zs H2=>zs=xs.take i/\H2=upd H1 acc Z5P/\∃ o,L=[Z7S,ZGA,Z75,Z4y,Z9y,o],Z7O,?_,?_,?_⟩⟩
  ·rintro i L zs H2 hi ⟨rfl,rfl,_,rfl⟩
   exact⟨(ZLY).seq U,by rw[Gu];lia⟩
  ·rintro i x L zs H2 hi a1 ⟨rfl,rfl,o,rfl⟩
   obtain⟨q,zs,rfl,hq⟩:=a2 x (FT a1)
   dsimp only[eh,gy]
   refine fC ⟨_,rfl,q,zs,rfl,.inr ⟨(ZLY).tup hq,cy,Nx.mk hi ⟨?_,?_,_,rfl⟩⟩⟩
   ·rw[GQ,a1];rfl
   ·rw[gv]
  ·rintro L zs H2 ⟨rfl,rfl,o,rfl⟩
   rw[Ho]
   have J:p≠acc:=cB G j
   refine⟨_,rfl,p,_,dx,_,rfl,(by rw[cz J];exact G),T.cl_Event,T.na_cy,ZHm,?_⟩
   refine⟨_,rfl,b,ys,rfl,.inl (iA (by rw[cz J];exact G) ((ZLY).seq Z)),λ l2 F=>?_⟩
   have W:p≠l2:=cB (cy) F
   have nl:acc≠l2:=cB (o:=.lst xs) (by rw[Z52,cy]) F
   refine⟨_,rfl,p,_,dx,_,rfl,(by rw[cz W,cy]),T.cl_Event,T.na_cx,ZHl,?_⟩
   refine k acc l2 _ ?_ ?_ nl λ c=>?_
   ·rw[<- O,Z52] at j;exact j
   ·rw[cz ZAr,cz (Ne.symm nl),<- O,cz ZAr] at F;exact F
   ·rw[<- O]
    unfold evF
    by_cases Y:c=p
    ·rw[Y,cy,Z1X]
    ·rw[cz Y,FV Y]
     by_cases c2:c=l2
     ·rw[c2,cy,FV (Ne.symm nl),Z1X]
     ·rw[cz c2,cz Y]
      by_cases c3:c=acc
      ·rw[c3,cy,Z1X]
      ·rw[cz c3,cz Y,FV c3,FV c2]
noncomputable abbrev Nm3:=Int×Int×Int
noncomputable def nV (n:Nm3):Z04:=Zp
structure EvA where
 u:Option Nm3
 st:Int
 se:List (Int×Int)
 sa:Zc
def UsO (G:Hp) (v:V):Option Nm3->Prop
 | none=>v=.non
 | some n=>∃ b,v=.ref b/\G b=some Z3K
def LsO (G:Hp) (xs:Z04) (se:List (Int×Int)):Prop:=∃ ls:List (Addr×Int×Int),xs=ls.map (λ x=>Z3q)/\se=ls.map (·.2)/\∀ x∈ls,G x.1=some Zu
def EvO (_:W.Frag) (t:Adr) (G:Hp) (e:Addr) (A:EvA):Prop:=∃ dx v l1 l2 xs ys,G e=some Z6q/\UsO G v A.u/\G l1=some ZQ/\LsO G xs A.se/\xs.length<=3/\G l2=some Zb/\ys=iV A.sa/\A.sa.length<=10
theorem UsO.same (s:Z7Y) (h:UsO G v u):UsO G' v u:=by
 cases u with
 | none=>exact h
 | some n=>exact let ⟨b,e,q⟩:=h;⟨b,e,s _ _ q⟩
theorem LsO.same (s:Z7Y) (h:LsO G xs se):LsO G' xs se:=let ⟨L,j,F,q⟩:=h;⟨L,j,F,λ x J=>s _ _ (q x J)⟩
theorem EvO.same (s:Z7Y) (h:EvO K t G e A):EvO K t G' e A:=by
 obtain⟨dx,v,O,U,xs,ys,h1,h2,j,q,F,J,L⟩:=h
 exact⟨dx,v,O,U,xs,ys,s _ _ h1,h2.same s,s _ _ j,q.same s,F,s _ _ J,L⟩
theorem ku:(Z51).lookup ("used" :ZBp)=some v:=by unfold evF;rw[dC,ZEF,dC,ZEF,dC,ZEF,dC,Z1X]
theorem mD:(Z51).lookup ("state" :ZBp)=some (ZCj):=by unfold evF;rw[dC,ZEF,dC,ZEF,dC,Z1X]
theorem jf:(Z51).lookup ("sent" :ZBp)=some (V.ref l1):=by unfold evF;rw[dC,ZEF,dC,Z1X]
theorem pB:(Z51).lookup ("said" :ZBp)=some (V.ref l2):=by unfold evF;rw[dC,Z1X]
theorem vm (sG:ZGO) (ne:H e=none) (a1:H dxe=none) (V:upd Z49 e Z3L m1=none) (W:upd Z49 e Z3L m2=none) (J:m1≠m2)
  (U:∀ c,H5 c=if c=e then some Z0w else if c=m1 then some ZQ else if c=m2 then some Zb else upd Z49 e Z3L c)
  (r1:UsO G v Ew.u) (r2:LsO G xs Ew.se) (Y:xs.length<=3) (r3:ys=iV Ew.sa/\Ew.sa.length<=10):∃ O,fD H G O H5/\cG H H5/\EvO K t O e Ew/\O e=some (Z0w)/\O m1=some ZQ:=by
 have L:cG H (upd Z49 e Z3L):=cG.ins ne a1
 have j:m1≠e:=λ z=>by rw[z,cy] at V;cases V
 have F:m2≠e:=λ z=>by rw[z,cy] at W;cases W
 have s5:cG H H5:=λ c u q=>by
  rw[U c,FV (cB q ne),FV (cB q (L.free V)),FV (cB q (L.free W))]
  exact L _ _ q
 have g0:fD H G G H5:=⟨ZIj,sG.trans s5,λ _ _ z=>Z9F⟩
 have g1:=g0.freeze (o:=.lst xs) (L.free V) (by rw[U m1,FV j,Z1X])
 have g2:=g1.freeze (o:=.lst ys) (L.free W) (by rw[U m2,FV F,FV (Ne.symm J),Z1X])
 have Z:=g2.freeze (o:=Z0w) ne (by rw[U e,Z1X])
 have q1:upd (upd (upd G m1 ZQ) m2 Zb) e Z0w m1=some ZQ:=by rw[cz j,cz J,cy]
 exact⟨_,Z,s5,⟨dxe,v,m1,m2,xs,ys,cy,r1.same Z.sub,q1,r2.same Z.sub,Y,by rw[cz F,cy],r3⟩,cy,q1⟩
def SaN (t:Adr) (H H':Hp) (q:Addr) (A:EvA):Prop:=∃ dx v l1 l2,H' q=some Z6q/\H l2=none/\H' l2=some (.lst (iV A.sa))
def Du (K:W.Frag) (t:Adr):Sp:=λ vs H Q _=>∃ G e A,vs=[ZGX]/\cG G H/\EvO K t G e A/\∀ G' H' e',fD H G G' H'->cG H H'->EvO K t G' e' A->SaN t H H' e' A->Q Z7e H'
theorem yX (T:ZJ):dk P w K mg base ZM 3 t.f_dt t.fd_dt ["event"] (Du K t):=by
 refine T.F_dt.okN Az Z6 Z0I
 ·obtain⟨G,e,A,rfl,_⟩:=h;rfl
 ·obtain⟨G,e,A,rfl,L,ev,k⟩:=h
  refine⟨_,(cE (cQ (fI T.mk_Event ZMF Z0 rfl T.mg_Event T.b_cr .nil cH (cF Z2 (cF Z2 (cF Z2 Z1q)))))),?_⟩
  obtain⟨dx,v,l1,l2,xs,ys,h1,h2,h3,h4,h5,h6,h7⟩:=id ev
  have O:=L _ _ h1
  refine⟨_,rfl,e,_,dx,_,_,rfl,O,T.cl_Event,T.na_cz,ku,?_⟩
  refine⟨_,rfl,e,_,dx,_,_,rfl,O,T.cl_Event,T.na_ck,mD,?_⟩
  refine⟨_,rfl,e,_,dx,_,_,rfl,O,T.cl_Event,T.na_cy,jf,?_⟩
  refine⟨_,rfl,e,_,dx,_,_,rfl,O,T.cl_Event,T.na_cx,pB,λ x j nx J a2=>?_⟩
  have V:cG H (upd (upd H j Z4w) x (.ins t.c_Event j [])):=cG.ins nx J
  refine⟨x,j,v,A.st,l1,l2,xs,ys,rfl,cy,SqL.of (V _ _ (L _ _ h3)),Z1,λ y hy=>?_,SqL.of (V _ _ (L _ _ h6)),λ m1 m2 H' n1 U F Y=>Z2k⟩
  ·obtain⟨ls,rfl,_,q⟩:=h4
   obtain⟨z,hz,rfl⟩:=F2.mp hy
   exact⟨_,_,rfl,SqT.of (V _ _ (L _ _ (q z hz)))⟩
  obtain⟨G',g,s,W,_⟩:=vm (K:=K) (Ew:=A) L nx J n1 U F Y h2 h4 h5 h7
  have Z:m2≠x:=λ z=>by rw[z,cy] at U;cases U
  exact k G' H' x g s W ⟨j,v,m1,m2,by rw[Y,Z1X],V.free U,by rw[Y,FV Z,FV ZFy,Z1X,h7.1]⟩
def Fh:Sp:=λ vs H Q _=>∃ x d h,vs=[x,Z9D,Z5x]/\Q Z9D H
theorem Dg (T:ZJ):dk P w K mg base ZM 1 t.f_ag t.fd_ag ["self","down","here"] Fh:=by
 refine T.F_ag.okN Co Z6 Z0d
 ·obtain⟨x,d,h,rfl,_⟩:=h;rfl
 ·obtain⟨x,d,h,rfl,k⟩:=h
  exact ZFC
def E4:Sp:=λ vs H Q _=>∃ x d h,vs=[x,Z9D,Z5x]/\Q Z9D H
theorem yz (T:ZJ):dk P w K mg base ZM 1 t.f_ac t.fd_ac ["self","down","here"] E4:=by
 refine T.F_ac.okN Bq Z6 Z0d
 ·obtain⟨x,d,h,rfl,_⟩:=h;rfl
 ·obtain⟨x,d,h,rfl,k⟩:=h
  exact ZFC
def Cf:Sp:=λ vs H Q _=>∃ x d h,vs=[x,Z9D,Z5x]/\Q Z5x H
theorem DD (T:ZJ):dk P w K mg base ZM 1 t.f_ai t.fd_ai ["self","down","here"] Cf:=by
 refine T.F_ai.okN DI Z6 Z0d
 ·obtain⟨x,d,h,rfl,_⟩:=h;rfl
 ·obtain⟨x,d,h,rfl,k⟩:=h
  exact ZFD
def Cr (t:Adr):Sp:=λ vs H Q _=>∃ p dx i,vs=[Zs,Z08]/\H p=some (.ins t.c_Bundle dx [])/\1<=i/\i<=20/\Q .non (upd H p (.ins t.c_Bundle dx (cL "size" (Z08) [])))
theorem yF (T:ZJ):dk P w K mg base ZM 2 t.f_cb t.fd_cb ["self","size"] (Cr t):=by
 refine T.F_cb.okN DC Z6 Z89
 ·obtain⟨p,dx,i,rfl,_⟩:=h;rfl
 ·obtain⟨p,dx,i,rfl,q,G,J,k⟩:=h
  refine⟨_,(cD (dy (PW.pt (hZ (eE (dN (cU ZDB ZAu rfl T.mg_dm T.kp_dm T.b_dm .nil cH Zf))) (hZ (cZ pq ZI (mh rfl T.mv_SMALLEST_SIZE) Z0Z) (gS (cZ yV ZI (mh rfl T.mv_GREATEST_SIZE) Z0Z)))))
    ZAm
    da)
   (cE Z2C)),?_⟩
  refine⟨_,rfl,i,rfl,_,rfl,fG ⟨_,rfl,_,_,rfl,rfl,_,rfl,eA (by simpa using G) ⟨_,rfl,_,_,rfl,rfl,_,rfl,eA (by simpa using J) ?_⟩⟩⟩
  exact⟨_,rfl,_,rfl,p,_,dx,_,rfl,q,T.cl_Bundle,T.na_cj,Z4,k⟩
def C0 (t:Adr):Sp:=λ vs H Q _=>∃ p dx n d h,vs=[Zs,Z9D,Z5x]/\H p=some (.ins t.c_Bundle dx (cL "size" (.int n) []))/\Q (.int (if h-d >= n then h else d)) H
theorem Fj (T:ZJ):dk P w K mg base ZM 1 t.f_ae t.fd_ae ["self","down","here"] (C0 t):=by
 refine T.F_ae.okN EI Z6 Z89
 ·obtain⟨p,dx,n,d,h,rfl,_⟩:=h;rfl
 ·obtain⟨p,dx,n,d,h,rfl,q,k⟩:=h
  refine⟨_,(cD (dy (cZ oS (cS mU ZV ZI) Z2 Z0Z)
    Z3z
    da)
   Z6a),?_⟩
  refine⟨_,rfl,_,rfl,_,_,rfl,rfl,_,rfl,p,_,dx,_,.int n,rfl,q,T.cl_Bundle,T.na_cj,(by rw[dC,Z1X]),_,_,rfl,rfl,_,rfl,fY (λ z=>Z3b) λ z=>Z3b⟩
  ·rwa [FX (GH z)] at k
  ·rwa [FV (λ y=>z (Gg y))] at k
def D1:Sp:=λ vs H Q _=>∃ x d h,vs=[x,Z9D,Z5x]/\Q Z5x H
theorem E7 (T:ZJ):dk P w K mg base ZM 1 t.f_aa t.fd_aa ["self","down","here"] D1:=by
 refine T.F_aa.okN CQ Z6 Z0d
 ·obtain⟨x,d,h,rfl,_⟩:=h;rfl
 ·obtain⟨x,d,h,rfl,k⟩:=h
  exact ZFD
noncomputable def thF (first:Int) (ha dn wr:Addr) (down:Int):List (Str×V):=[("first",.int first),("habit",.ref ha),("done",.ref dn),("writings",ZFi),("down",.int down)]
theorem fJ:(thF first ha dn wr down).length<1000:=by show 5<1000;decide
theorem wK:cL "down" (Z9D) (thF first ha dn wr down)=thF first ha dn wr d:=rfl
def BM (t:Adr):Sp:=λ vs H Q _=>∃ p dx i ha,vs=[Zs,Z08,.ref ha]/\H p=some (.ins t.c_Thread dx []) /\
 ∀ dn wr H',H dn=none->H wr=none->dn≠wr->(∀ c,H' c=if c=p then some (.ins t.c_Thread dx (thF i ha dn wr 0)) else if c=dn then some Zr else if c=wr then some ZJs else H c)->Q .non H'
theorem DE (T:ZJ):dk P w K mg base ZM 1 t.f_cc t.fd_cc ["self","start","habit"] (BM t):=by
 refine T.F_cc.okN Ea Z6 (λ W A outer s H vs Q E hr h=>?_)
 ·obtain⟨p,dx,i,Y,rfl,_⟩:=h;rfl
 ·obtain⟨p,dx,i,Y,rfl,Z,k⟩:=h
  refine⟨_,(cD Z2C
   (cD ZEZ
   (cD Z65
   (cD (dj (K:=K) ZX (dS ZCS) rfl)
   (cE (dj (K:=K) ZX cJ rfl)))))),?_⟩
  refine⟨_,rfl,_,rfl,p,_,dx,_,rfl,Z,T.cl_Thread,T.na_bz,Z4,?_⟩
  refine⟨_,rfl,_,rfl,p,_,dx,_,rfl,cy,T.cl_Thread,T.na_ca,ZI_,?_⟩
  rw[gv]
  refine⟨Z4,λ O q=>⟨_,rfl,p,_,dx,_,rfl,(by rw[cz (cB cy q),cy]),T.cl_Thread,T.na_cp,ZHm,?_⟩⟩
  have J:p≠O:=cB cy q
  refine⟨Z4,λ wr j=>⟨_,rfl,p,_,dx,_,rfl,(by rw[cz (cB cy j),cy]),T.cl_Thread,T.na_av,ZHl,?_⟩⟩
  have L:p≠wr:=cB cy j
  have F:O≠wr:=cB (o:=Zr) (by rw[Z52,cy]) j
  refine⟨_,rfl,p,_,dx,_,rfl,cy,T.cl_Thread,T.na_cq,fZ (n:=3) (Gd Z3X (Jw Z8w)) Z4,?_⟩
  refine k O wr _ ?_ ?_ F λ c=>?_
  ·rw[Z52] at q;exact q
  ·rw[ZKO,cz ZFy,ZKO] at j;exact j
  ·by_cases G:c=p
   ·rw[G,cy,Z1X];rfl
   ·rw[cz G,cz G,FV G]
    by_cases U:c=wr
    ·rw[U,cy,FV ZFy,Z1X]
    ·rw[cz U,cz G]
     by_cases V:c=O
     ·rw[V,cy,Z1X]
     ·rw[cz V,cz G,FV V,FV U]
def yB (t:Adr) (K:W.Frag):Sp:=λ vs H Q _=>∃ p dx i ha dn wr d xs,vs=[Zs]/\H p=some Zv/\SqL K H dn xs/\Q (.int xs.length) H
theorem gm (T:ZJ):dk P w K mg base ZM 1 t.f_cd t.fd_cd ["self"] (yB t K):=by
 refine T.F_cd.okN Ez Z6 (λ q A outer s H vs Q E L h=>?_)
 ·obtain⟨p,dx,i,F,j,wr,d,xs,rfl,_⟩:=h;rfl
 ·obtain⟨p,dx,i,F,j,wr,d,xs,rfl,J,G,k⟩:=h
  refine⟨_,(cE (cQ (dB ZFw rfl T.no_len jM Z1q))),?_⟩
  exact⟨_,rfl,p,_,dx,_,.ref j,rfl,J,T.cl_Thread,T.na_cp,rfl,j,xs,rfl,.inl G,k⟩
def jX (K:W.Frag) (t:Adr) (G:Hp) (es:Z04) (As:ZCo):Prop:=es.length=As.length/\∀ (i:Nat) (e:V) (A:EvA),es[i]? = some e->As[i]? = some A->∃ q,e=V.ref q/\EvO K t G q A
theorem jX.same (s:Z7Y) (h:ZKE):jX K t G' es As:=⟨h.1,λ i e A a b=>let ⟨q,z,y⟩:=ZLP;⟨q,z,y.same s⟩⟩
def EvN (t:Adr) (H H':Hp) (es:Z04) (As:ZCo):Prop:=∀ (i:Nat) (e:V) (A:EvA),es[i]? = some e->As[i]? = some A->∃ q,e=V.ref q/\SaN t H H' q A
def B7 (K:W.Frag) (t:Adr):Sp:=λ vs H Q _=>∃ G p dx i ha dn wr d es As,vs=[Zs]/\cG G H/\H p=some Zv/\H dn=some Z6c/\jX K t G es As/\es.length<=1000 /\
 ∀ G' H' l es',fD H G G' H'->cG H H'->H l=none->H' l=some (.lst es')->G' l=none->jX K t G' es' As->EvN t H H' es' As->Q Zg H'
theorem yN (T:ZJ):dk P w K mg base ZM 4 t.f_bc t.fd_bc ["self"] (B7 K t):=by
 refine T.F_bc.okN CJ Z6 (λ aa A outer s H vs Q E hr h=>?_)
 ·obtain⟨G,p,dx,i,ha,dn,wr,d,es,As,rfl,_⟩:=h;rfl
 ·obtain⟨G,p,dx,i,ha,dn,wr,d,es,As,rfl,sG,hp,hd,ev,a6,k⟩:=h
  refine⟨_,(cE (cQ (dH ["self","event"] 1 rfl Z1W (λ _ _ _ _ _=>⟨(cN (i:=1) (show List.Nodup (["self","event"]:ZT) from by decide +kernel) rfl Z5),dG,Z3_⟩)))),?_⟩
  refine⟨_,rfl,p,_,dx,_,.ref dn,rfl,hp,T.cl_Thread,T.na_cp,rfl,dn,rfl,⟨_,Z38⟩,dU (xs:=es) a6 λ acc F=>⟨λ i O ys H2=>(∃ U,fD H G U H2/\U acc=none/\∀ (j:Nat) (e:V) (A:EvA),ys[j]? = some e->As[j]? = some A->∃ q,e=V.ref q/\EvO K t U q A/\SaN t ZKp H2 q A)/\cG H H2/\H2 acc=some Zb/\ys.length=i/\∃ o,O=[Z7S,o],?_,?_,?_,?_⟩⟩
  ·have a4:G acc=none:=by
    cases q:G acc with
    | none=>rfl
    | some u=>rw[sG _ _ q] at F;cases F
   exact⟨⟨G,⟨ZIj,sG.trans Z81,λ _ _ e=>ZAa⟩,a4,λ j e A z=>by simp at z⟩,cG.new F,cy,rfl,_,rfl⟩
  ·rintro i O ys H2 hi ⟨_,Z,_,rfl,_⟩
   exact⟨SqL.of (Z _ _ hd),Z9⟩
  ·rintro i x O ys H2 hi hx ⟨⟨U,g2,ga,ok⟩,Z,J,rfl,o,rfl⟩
   obtain⟨Ai,hA⟩:∃ Ai,As[ys.length]? = some Ai:=⟨_,FJ (by rw[<- ev.1];exact hi)⟩
   obtain⟨q,rfl,eq⟩:=ev.2 _ _ _ hx hA
   dsimp only[eh,gy]
   refine fC ⟨_,rfl,U,q,Ai,rfl,g2.held,eq.same g2.sub,λ G' H' e' g3 s3 a5 a9=>⟨s3 _ _ J,Nx.mk hi ?_⟩⟩
   have a3:G' acc=none:=g3.free (by rw[J];simp) ga
   refine⟨⟨G',⟨g2.sub.trans g3.sub,λ b u z=>?_,λ b u z=>?_⟩,a3,λ j e A z y=>?_⟩,λ b u z=>?_,cy,by rw[FQ];rfl,_,rfl⟩
   ·rw[cz (cB z a3)];exact g3.held _ _ z
   ·rcases g3.new b u z with z'|z'
    ·exact g2.new b u z'
    ·refine .inr ?_
     cases y:H b with
     | none=>rfl
     | some v=>rw[Z _ _ y] at z';cases z'
   ·rw[List.getElem?_append] at z
    split at z
    ·obtain⟨q',e1,e2,Y,v2,a1,a2,W,L,b3⟩:=ok j e A z y
     exact⟨q',e1,e2.same g3.sub,Y,v2,a1,a2,by rw[cz (λ z=>by rw[z,J] at W;cases W)];exact s3 _ _ W,L,by rw[cz (λ z=>by rw[z,cy] at L;cases L)];exact s3 _ _ b3⟩
    ·next hj=>
     have:j=ys.length:=by
      have:=(FK.mp z).1
      simp at this
      lia
     subst this
     rw[Hs] at z
     cases z
     rw[hA] at y
     cases y
     obtain⟨Y,v2,a1,a2,W,L,b3⟩:=a9
     have a8:=s3 _ _ J
     exact⟨e',rfl,a5,Y,v2,a1,a2,by rw[cz (λ z=>by rw[z,a8] at W;cases W)];exact W,(by rw[cz (λ z=>by rw[z,J] at L;cases L)];exact Z.free L),by rw[cz (λ z=>by rw[z,J] at L;cases L)];exact b3⟩
   ·rw[ZFN];exact s3 _ _ (Z _ _ z)
  ·rintro O ys H2 ⟨⟨U,g2,ga,ok⟩,Z,J,a7,_⟩
   exact k U H2 acc ys g2 Z F J ga ⟨a7.trans ev.1,λ j e A a b=>let ⟨q,x,y,_⟩:=ok j e A a b;⟨q,x,y⟩⟩ λ j e A a b=>let ⟨q,x,_,dx,v,l1,l2,y1,y2,y3⟩:=ok j e A a b;⟨q,x,dx,v,l1,l2,y1,(Z81).free y2,y3⟩
--@all
theorem dR:atI (x::xs) 0=some x:=by
 unfold atI ixN
 rw[Z9V,FX (by rw[GF];lia)]
 rfl
def Cw (t:Adr):Sp:=λ vs H Q _=>∃ p dx i ha dn wr d w0 ws,vs=[Zs]/\H p=some Zv/\H wr=some (.lst (iV (w0::ws)))/\(∀ y∈w0::ws,0<=y/\y<=60)/\(w0::ws).length<=62/\0<=d/\d<=60 /\
 ∀ l ns H',cG H H'->H l=none->H' l=some ZHY->ns.Pairwise (· <= ·)->ns.Nodup->(∀ y,y∈ns↔(w0<=y/\y<=d)\/y∈w0::ws)->Q Zg H'
theorem Fo (T:ZJ):dk P w K mg base ZM 1 t.f_bd t.fd_bd ["self"] (Cw t):=by
 refine T.F_bd.okN zg Z6 Z0I
 ·obtain⟨p,dx,i,ha,dn,wr,d,j,ws,rfl,_⟩:=h;rfl
 ·obtain⟨p,dx,i,ha,dn,wr,d,j,ws,rfl,U,hw,bw,lw,d0,d1,k⟩:=h
  refine⟨_,(cD (cV (i:=1) zg.nd rfl Z5 (dP (iX rfl) rfl T.no_list jG (cF (dP sW rfl T.no_range nv (cF ZI1 (cF (cS dM Z2 cJ) cC))) cC)))
   (cE (cQ (dB (qj rfl (P:=P) (w:=w)) rfl T.no_sorted kh (cF (cS (zA (P:=P) (w:=w)) (dP Z9a rfl T.no_set yw Zf) (dP Z9a rfl T.no_set yw Z1q)) cC))))),?_⟩
  have b0:=bw j FZ
  refine⟨_,rfl,p,_,dx,_,ZFi,rfl,U,T.cl_Thread,T.na_av,rfl,wr,_,0,Z0r,rfl,rfl,SqL.of hw,dR,?_⟩
  refine⟨_,rfl,p,_,dx,_,Z9D,rfl,U,T.cl_Thread,T.na_cq,rfl,_,_,rfl,rfl,_,_,rfl,λ r V=>?_⟩
  have s1:cG H _:=cG.new (o:=.rng j (d+1)) V
  refine⟨r,j,d+1,rfl,cy,Z5C,Z1,λ l hl=>?_⟩
  have s2:=s1.trans (cG.new (o:=.lst (iV (gM j (d+1)))) hl)
  refine⟨_,rfl,l,gM j (d+1),rfl,Z83,by rw[gu];lia,λ a ka L a2 ma=>?_⟩
  have Z:=s2.trans (cG.new (o:=ic P w a ka) L)
  refine⟨_,rfl,p,_,dx,_,ZFi,rfl,Z _ _ U,T.cl_Thread,T.na_av,rfl,wr,j::ws,rfl,SqL.of (Z _ _ hw),Z1,λ b kb F a3 mb=>?_⟩
  have G:a≠b:=cB cy F
  have s4:=Z.trans (cG.new (o:=ic P w b kb) F)
  refine⟨a,b,ka,kb,gM 0 61,rfl,rfl,G,by rw[cz G,cy],cy,by rw[gu];decide,λ y W=>?_,λ y W=>?_,λ c kc O Y mc=>?_⟩
  ·have:=gB.mp ((ma y).mp W);exact gB.mpr Z1
  ·have:=bw y ((mb y).mp W);exact gB.mpr Z1
  have s5:=s4.trans (cG.new (o:=ic P w c kc) O)
  refine⟨c,kc,rfl,cy,λ e ns J pm so=>?_⟩
  refine k e ns _ (s5.trans (cG.new J)) ?_ cy so (pm.nodup_iff.mpr Y) λ y=>?_
  ·cases q:H e with
   | none=>rfl
   | some u=>rw[s5 _ _ q] at J;cases J
  ·rw[pm.mem_iff,mc,ma,mb,gB]
   constructor
   ·rintro(z|z)
    ·exact .inl Z1
    ·exact ZEQ
   ·rintro(z|z)
    ·exact .inl Z1
    ·exact ZEQ
def yn (K:W.Frag) (t:Adr):Sp:=λ vs H Q _=>∃ p dx i ha dn wr d xs y,vs=[Zs,Z6Y]/\H p=some Zv/\SqL K H dn xs/\Q (.bl (decide (y=xs.length))) H
theorem uj (T:ZJ):dk P w K mg base ZM 2 t.f_aw t.fd_aw ["self","place"] (yn K t):=by
 refine T.F_aw.okN BL Z6 (λ J A outer s H vs Q E G h=>?_)
 ·obtain⟨p,dx,i,q,j,wr,d,xs,y,rfl,_⟩:=h;rfl
 ·obtain⟨p,dx,i,q,j,wr,d,xs,y,rfl,F,L,k⟩:=h
  refine⟨_,(cE (cQ (kT Z2a (jx (eX hU ZI (cX ZX T.cl_Thread T.me_cd ZDD (G.mono Z4) T.b_cd .nil cH) Z0Z))))),?_⟩
  refine⟨_,rfl,y,rfl,_,rfl,fC ?_⟩
  refine⟨_,rfl,_,rfl,p,dx,_,rfl,F,rfl,p,dx,i,q,j,wr,d,xs,rfl,F,L,?_⟩
  refine Z2k
  have e:decide (V.int y=V.int xs.length)=decide (y=(xs.length:Int)):=by rw[Hn];simp
  rw[e];exact k
theorem jJ {y:Int}:∀ {ws:List Int},inV ZAp (iV ws)=decide (y∈ws)
 | []=>rfl
 | w::ws=>by
  have ih:inV ZAp (iV ws)=decide (y∈ws):=jJ
  show (eqV (V.int w) ZAp || inV ZAp (iV ws))=_
  rw[ih,Hn,JJ,GA,GA,FR]
  show ((w == y)=true\/_)↔_
  rw[HK]
  exact⟨λ h=>Z8_,λ h=>Z8_⟩
def yc (t:Adr):Sp:=λ vs H Q _=>∃ p dx i ha dn wr d w0 ws y,vs=[Zs,Z6Y]/\H p=some Zv/\H wr=some (.lst (iV (w0::ws)))/\Q (.bl (decide (y∈w0::ws\/(w0<=y/\y<=d)))) H
theorem yO (T:ZJ):dk P w K mg base ZM 2 t.f_ao t.fd_ao ["self","place"] (yc t):=by
 refine T.F_ao.okN Df Z6 (λ U A outer s H vs Q E hr h=>?_)
 ·obtain⟨p,dx,i,Z,W,wr,d,j,F,y,rfl,_⟩:=h;rfl
 ·obtain⟨p,dx,i,Z,W,wr,d,j,F,y,rfl,J,O,k⟩:=h
  refine⟨_,(cD (dy (eE (dN (cU ZDB Z0 rfl T.mg_dm T.kp_dm T.b_dm .nil cH Zf)))
    Z0T
    da)
   (cD (dy (cZ (uU (K:=K)) ZI Z2 (by with_unfolding_all rfl))
    Z0T
    da)
   (cE (cQ (kT (eX oS ZI ZI1 Z0Z) (jx (eX kU ZI Z2 Z0Z))))))),?_⟩
  refine⟨_,rfl,y,rfl,_,rfl,fG ?_⟩
  refine⟨_,rfl,_,rfl,p,_,dx,_,ZFi,rfl,J,T.cl_Thread,T.na_av,rfl,?_⟩
  have Y:(iV (j::F)).all gU=true:=by
   unfold iV;rw[JD];exact Z4r
  have G:inV ZAp (iV (j::F))=decide (y∈j::F):=jJ
  refine⟨wr,_,rfl,.inl ZGT,rfl,Y,_,rfl,?_⟩
  rw[G]
  by_cases z:y∈j::F
  ·rw[Gg z]
   rw[Gg (Or.inl z)] at k
   exact fC k
  ·rw[GW z]
   refine fG ?_
   refine⟨_,rfl,_,rfl,p,_,dx,_,ZFi,rfl,J,T.cl_Thread,T.na_av,rfl,wr,_,0,Z0r,rfl,rfl,ZGT,dR,_,_,rfl,rfl,_,rfl,?_⟩
   refine fY (λ L=>⟨_,rfl,_,rfl,p,_,dx,_,Z9D,rfl,J,T.cl_Thread,T.na_cq,rfl,_,_,rfl,rfl,?_⟩) λ L=>?_
   ·have e:decide (y∈j::F\/j<=y/\y<=d)=decide (y<=d):=by
     rw[Hn,GA,GA]
     exact⟨λ h=>h.elim (λ q=>absurd q z) λ q=>q.2,λ h=>.inr ⟨GH L,h⟩⟩
    rw[e] at k;exact k
   ·have e:decide (y∈j::F\/j<=y/\y<=d)=false:=by
     rw[Ju]
     exact λ h=>h.elim z λ q=>L (Gg q.1)
    rw[e] at k;exact k
noncomputable def zL (first:Int) (As:ZCo) (y:Int):Int:=if y=0 then first else ((As[(y-1).toNat]?).map EvA.st).getD 0
def mQ (n:Nat) (ws:Zc) (w0 d y:Int):Prop:=y=n\/y∈w0::ws\/(w0<=y/\y<=d)
def yT (K:W.Frag) (t:Adr):Sp:=λ vs H Q _=>∃ G p dx i ha dn wr d w0 ws es As y,vs=[Zs,Z6Y]/\cG G H/\H p=some Zv/\H wr=some (.lst (iV (w0::ws)))/\H dn=some Z6c/\jX K t G es As /\
 (∀ z∈w0::ws,0<=z/\z<=es.length)/\d<=es.length/\mQ es.length ws w0 d y/\Q (.int (zL i As y)) H
theorem DS (T:ZJ):dk P w K mg base ZM 3 t.f_ap t.fd_ap ["self","place"] (yT K t):=by
 refine T.F_ap.okN DX Z6 Z1B
 ·obtain⟨G,p,dx,i,ha,O,wr,d,J,W,es,As,y,rfl,_⟩:=h;rfl
 ·obtain⟨G,p,dx,i,ha,O,wr,d,J,W,es,As,y,rfl,sG,L,hw,hd,ev,bw,bd,a1,F⟩:=h
  refine⟨_,(cD (dy (PW.pt (jw (eE Z2h) (iw (eE (dN (cW ZX T.cl_Thread T.me_ao ZMK Z0 T.b_ao .nil cH Zf))))))
    ZAm
    da)
   (cD (dy (cZ hU ZI cJ Z0Z)
    (cE (cQ Z2))
    da)
   (cE (cQ (cK (K:=K) (cY ZR Z2 (cS mU ZI cJ) ZA) rfl))))),?_⟩
  have b0:=bw J FZ
  have a3:mQ es.length W J d y->0<=y/\y<=es.length:=λ c=>by
   rcases c with c|c|c
   ·lia
   ·exact bw y c
   ·lia
  have U:mQ es.length W J d y->(sM (wH (vG (tOp rEq ZAj (tC (V.int 0)))) (uI (nh K ZCN "first")) vJ)
    (uI (nh K (tOp Z9H (nh K ZCN "done") (tOp (rI0 λ i j=>V.int (i-j)) ZAj (tC (V.int 1)))) "state"))) { nx:=λ x H'=>Z8d,rt:=Q } [Z7S,Z1d] H:=by
   intro c
   have r:=a3 c
   refine⟨_,rfl,rfl,_,rfl,?_⟩
   by_cases Z:y=0
   ·refine gE (by rw[Z];simp) ⟨_,rfl,p,_,dx,_,.int i,rfl,L,T.cl_Thread,T.na_bz,rfl,?_⟩
    unfold zL at F;rw[FX Z] at F;exact F
   ·refine eA (by simp[Z]) ?_
    obtain⟨e,he⟩:∃ e,es[(y-1).toNat]? = some e:=Z5V
    obtain⟨Ai,hA⟩:∃ Ai,As[(y-1).toNat]? = some Ai:=⟨_,FJ (by rw[<- ev.1];lia)⟩
    obtain⟨q,rfl,a2,v,l1,l2,xs,ys,h1,_⟩:=ev.2 _ _ _ he hA
    refine⟨_,rfl,p,_,dx,_,.ref O,rfl,L,T.cl_Thread,T.na_cp,rfl,_,rfl,_,_,rfl,rfl,O,es,y-1,Z2P,rfl,rfl,Z38,?_,q,_,a2,_,.int Ai.st,rfl,sG _ _ h1,T.cl_Event,T.na_ck,mD,?_⟩
    ·unfold atI ixN;rw[Z9V,Z9V];exact he
    ·unfold zL at F;rw[FV Z,hA] at F;exact F
  refine⟨_,rfl,p,dx,_,rfl,L,rfl,_,rfl,p,dx,i,ha,O,wr,d,es,y,rfl,L,Z38,_,rfl,?_⟩
  by_cases Y:y=es.length
  ·refine eA (by rw[Gg Y];rfl) (fG (U (.inl Y)))
  ·refine gE (by rw[GW Y];rfl) ?_
   refine⟨_,rfl,p,dx,_,rfl,L,rfl,_,rfl,p,dx,i,ha,O,wr,d,J,W,y,rfl,L,hw,_,rfl,?_⟩
   by_cases c2:y∈J::W\/(J<=y/\y<=d)
   ·exact eA (by rw[Gg c2];rfl) (U (.inr c2))
   ·exact absurd (a1.resolve_left Y) c2
inductive iP where
 | never|each|bundle (n:Int)
noncomputable def iP.jk:iP->Int->Int->Int
 | .never,d,_=>d
 | .each,_,h=>h
 | .bundle n,d,h=>if h-d >= n then h else d
noncomputable def iP.fR:iP->Int->Int->Int
 | .bundle _,_,h=>h
 | _,d,_=>d
def jE (t:Adr) (G:Hp) (ha:Addr):iP->Prop
 | .never=>∃ dx,G ha=some (.ins t.c_Never dx [])
 | .each=>∃ dx,G ha=some (.ins t.c_Each dx [])
 | .bundle n=>∃ dx,G ha=some (.ins t.c_Bundle dx (cL "size" (.int n) []))
structure ThA where
 first:Int
 hab:iP
 evs:ZCo
 ws:Zc
 down:Int
structure ThL where
 (p dx ha dn wr:Addr)
structure Th (K:W.Frag) (t:Adr) (G H:Hp) (L:ThL) (A:ThA):Prop where
 self:H L.p=some Z4o
 hab:jE t G L.ha A.hab
 done:∃ es,H L.dn=some Z6c/\jX K t G es A.evs
 fR:H L.wr=some ZIB
 held:ZGO
 gp:G L.p=none
 gd:G L.dn=none
 gw:G L.wr=none
 ne:L.dn≠L.wr
def x9 (K:W.Frag) (t:Adr):Sp:=λ vs H Q _=>∃ G L A e Ev,vs=[Zk,ZGX]/\Th K t G H L A/\EvO K t G e Ev/\A.evs.length<=900 /\
 ∀ G' H',fD H G G' H'->But [L.p,L.dn] H H'->Th K t G' H' L { A with evs:=A.evs++[Ev],down:=A.hab.jk A.down (A.evs.length+1) }->Q .non H'
theorem Ee (T:ZJ):dk P w K mg base ZM 4 t.f_db t.fd_db ["self","event"] (x9 K t):=by
 refine T.F_db.okN Dm Z6 ZB
 ·obtain⟨G,L,A,e,Ev,rfl,_⟩:=h;rfl
 ·obtain⟨G,L,A,e,Ev,rfl,th,ev,few,k⟩:=h
  refine⟨_,(cD (cR (dQ (K:=K) F5 Gj Gi dA Z2 (cF Z3_ cC)))
   (cE (dj (K:=K) ZX (mL (cW Z2 T.cl_Never T.me_Never_down_by_deed (Dg (K:=K) T) Z0 T.b_ag .nil cH Z21) (mL (cW Z2 T.cl_Each T.me_ai (DD (K:=K) T) Z0 T.b_ai .nil cH Z21) (cW Z2 T.cl_Bundle T.me_ae (Fj (K:=K) T) Z0 T.b_ae .nil cH Z21))) rfl))),?_⟩
  obtain⟨es,hd,evs⟩:=th.done
  refine⟨_,rfl,L.p,_,L.dx,_,.ref L.dn,rfl,th.self,T.cl_Thread,T.na_cp,rfl,?_⟩
  refine⟨.inl ⟨rfl,es,Z38⟩,_,rfl,G,e,Ev,rfl,th.held,ev,λ G' H' e' g s2 ev' _=>?_⟩
  refine⟨L.dn,es,Z7e,rfl,rfl,s2 _ _ hd,dc (by rw[evs.1];lia),?_⟩
  have npd:L.p≠L.dn:=Z9Q
  have npw:L.p≠L.wr:=Z7X
  have hp1:upd H' L.dn (.lst (es++[Z7e])) L.p=some Z4o:=by rw[cz npd];exact s2 _ _ th.self
  have hd1:upd H' L.dn (.lst (es++[Z7e])) L.dn=some (.lst (es++[Z7e])):=cy
  have len:((es++[V.ref e']).length:Int)=A.evs.length+1:=by rw[FQ,evs.1];simp
  have gp':G' L.p=none:=g.free (by rw[th.self];simp) th.gp
  have gd':G' L.dn=none:=g.free (by rw[hd];simp) th.gd
  have gw':G' L.wr=none:=g.free (by rw[th.fR];simp) th.gw
  have habH:∀ b u,G b=some u->upd H' L.dn (.lst (es++[Z7e])) b=some u:=λ b u z=>by
   rw[cz (cB z th.gd)];exact s2 _ _ ZL8
  have fin:∀ d',d'=A.hab.jk A.down (A.evs.length+1)->Q .non (upd (upd H' L.dn (.lst (es++[Z7e]))) L.p Z10):=λ d' hd'=>by
   have held':cG G' (upd (upd H' L.dn (.lst (es++[Z7e]))) L.p Z10):=λ b u z=>by
    rw[cz (cB z gp'),cz (cB z gd')];exact g.held _ _ z
   refine k G' _ ⟨g.sub,held',g.new⟩ (λ b u n z=>?_) ⟨?_,?_,⟨es++[Z7e],?_,?_⟩,?_,held',gp',gd',gw',th.ne⟩
   ·simp only[FR,FU,Ga,Hz] at n
    rw[cz n.1,cz n.2];exact s2 _ _ z
   ·rw[cy,hd']
   ·have hh:=th.hab
    revert hh
    cases A.hab<;>exact λ⟨dx,z⟩=>⟨dx,g.sub _ _ z⟩
   ·rw[ZHo,cy]
   ·refine⟨by rw[FQ,FQ,evs.1];rfl,λ j x B hx hB=>?_⟩
    rw[List.getElem?_append] at hx hB
    by_cases hj:j<es.length
    ·rw[FX hj] at hx
     rw[FX (by rw[<- evs.1];exact hj)] at hB
     obtain⟨q,e1,e2⟩:=evs.2 j x B hx hB
     exact⟨q,e1,e2.same g.sub⟩
    ·rw[FV hj] at hx
     rw[FV (by rw[<- evs.1];exact hj)] at hB
     have lt:=Z0s
     have:j-es.length=0:=by simp at lt;lia
     rw[this] at hx
     rw[<- evs.1,this] at hB
     cases hx;cases hB
     exact⟨e',rfl,ev'⟩
   ·show upd (upd H' L.dn _) L.p _ L.wr=some ZIB
    rw[ZHn,cz (Ne.symm th.ne)];exact s2 _ _ th.fR
  have hb:=th.hab
  cases hA:A.hab with
  | never=>
   rw[hA] at hb
   obtain⟨dxh,hh'⟩:=hb
   refine ZJV
   refine ZW
   refine ZZ
   exact⟨_,rfl,L.p,_,L.dx,_,rfl,hp1,T.cl_Thread,T.na_cq,fJ,fin _ (by rw[hA];rfl)⟩
  | each=>
   rw[hA] at hb
   obtain⟨dxh,hh'⟩:=hb
   refine .inr ZJV
   refine ZW
   refine ZZ
   exact⟨_,rfl,L.p,_,L.dx,_,rfl,hp1,T.cl_Thread,T.na_cq,fJ,fin _ (by rw[hA];exact len)⟩
  | bundle n=>
   rw[hA] at hb
   obtain⟨dxh,hh'⟩:=hb
   refine ZKl
   refine ZW
   refine⟨_,rfl,L.p,L.dx,_,rfl,hp1,rfl,L.p,L.dx,_,_,_,_,_,_,rfl,hp1,SqL.of hd1,L.ha,dxh,n,_,_,rfl,habH _ _ hh',?_⟩
   exact⟨_,rfl,L.p,_,L.dx,_,rfl,hp1,T.cl_Thread,T.na_cq,fJ,fin _ (by rw[hA,len];rfl)⟩
noncomputable def ThA.wrote (A:ThA):ThA:=if (A.evs.length:Int)∈A.ws then A else { A with ws:=A.ws++[(A.evs.length:Int)],down:=A.hab.fR A.down A.evs.length }
def BB (K:W.Frag) (t:Adr):Sp:=λ vs H Q _=>∃ G L A,vs=[Zk]/\Th K t G H L A/\A.ws.length<=900 /\
 ∀ H',But [L.p,L.wr] H H'->Th K t G H' L A.wrote->Q .non H'
theorem Dw (T:ZJ):dk P w K mg base ZM 2 t.f_bj t.fd_bj ["self"] (BB K t):=by
 refine T.F_bj.okN Ed Z6 ZB
 ·obtain⟨G,L,A,rfl,_⟩:=h;rfl
 ·obtain⟨G,L,A,rfl,th,few,k⟩:=h
  refine⟨_,(cD (dy (cZ (uU (K:=K)) ZP Z2 (by with_unfolding_all rfl))
    (cE rO)
    da)
   (cD (cR (dQ (K:=K) F5 Gj Gi dA Z2 (cF ZP cC)))
   (cE (dj (K:=K) ZX (mL (cW Z2 T.cl_Never T.me_Never_down_by_writing ZME Z0 T.b_ac .nil cH Z21) (mL (cW Z2 T.cl_Each T.me_Each_down_by_writing ZME Z0 T.b_ac .nil cH Z21) (cW Z2 T.cl_Bundle T.me_aa (E7 (K:=K) T) Z0 T.b_aa .nil cH Z21))) rfl)))),?_⟩
  obtain⟨es,hd,evs⟩:=th.done
  have fl:(iV A.ws).all gU=true:=by unfold iV;rw[JD];exact Z4r
  refine⟨_,rfl,L.p,L.dx,_,rfl,th.self,rfl,L.p,L.dx,_,_,_,_,_,es,rfl,th.self,Z38,_,rfl,L.p,_,L.dx,_,ZAW,rfl,th.self,T.cl_Thread,T.na_av,rfl,L.wr,_,rfl,.inl Z93,rfl,fl,_,rfl,?_⟩
  rw[jJ,evs.1]
  by_cases z:(A.evs.length:Int)∈A.ws
  ·rw[Gg z]
   refine fC (k H (But.of ZIj) ?_)
   unfold ThA.wrote;rw[ZJC];exact th
  ·rw[GW z]
   refine fG ?_
   refine⟨_,rfl,L.p,_,L.dx,_,ZAW,rfl,th.self,T.cl_Thread,T.na_av,rfl,.inl ⟨rfl,_,Z93⟩,?_⟩
   refine⟨_,rfl,L.p,L.dx,_,rfl,th.self,rfl,L.p,L.dx,_,_,_,_,_,es,rfl,th.self,Z38,L.wr,_,_,rfl,rfl,th.fR,dc (by unfold iV;rw[FO];lia),?_⟩
   have npw:L.p≠L.wr:=Z7X
   have npd:L.p≠L.dn:=Z9Q
   have eW:iV A.ws++[V.int es.length]=iV (A.ws++[(A.evs.length:Int)]):=by unfold iV;rw[F0,evs.1];rfl
   rw[eW]
   have hp1:upd H L.wr (.lst (iV (A.ws++[(A.evs.length:Int)]))) L.p=some Z4o:=by rw[cz npw];exact th.self
   have hd1:upd H L.wr (.lst (iV (A.ws++[(A.evs.length:Int)]))) L.dn=some Z6c:=by rw[cz th.ne];exact hd
   have habH:∀ b u,G b=some u->upd H L.wr (.lst (iV (A.ws++[(A.evs.length:Int)]))) b=some u:=λ b u z=>by
    rw[cz (cB z th.gw)];exact ZL8
   have len:(es.length:Int)=A.evs.length:=by rw[evs.1]
   have fin:∀ d',d'=A.hab.fR A.down A.evs.length->Q .non (upd (upd H L.wr (.lst (iV (A.ws++[(A.evs.length:Int)])))) L.p Z10):=λ d' hd'=>by
    refine k _ (λ b u n q=>?_) ?_
    ·simp only[FR,FU,Ga,Hz] at n
     rw[cz n.1,cz n.2];exact q
    ·unfold ThA.wrote
     rw[ZJD]
     refine⟨?_,th.hab,⟨es,?_,evs⟩,?_,λ b u q=>?_,th.gp,th.gd,th.gw,th.ne⟩
     ·rw[cy,hd']
     ·rw[ZHo];exact hd1
     ·show upd (upd H L.wr _) L.p _ L.wr=_
      rw[ZHn,cy]
     ·rw[cz (cB q th.gp)];exact habH _ _ q
   have hb:=th.hab
   cases hA:A.hab with
   | never=>
    rw[hA] at hb
    obtain⟨dxh,hh'⟩:=hb
    refine ZJV
    refine ZW
    refine ZZ
    exact⟨_,rfl,L.p,_,L.dx,_,rfl,hp1,T.cl_Thread,T.na_cq,fJ,fin _ (by rw[hA];rfl)⟩
   | each=>
    rw[hA] at hb
    obtain⟨dxh,hh'⟩:=hb
    refine .inr ZJV
    refine ZW
    refine ZZ
    exact⟨_,rfl,L.p,_,L.dx,_,rfl,hp1,T.cl_Thread,T.na_cq,fJ,fin _ (by rw[hA];rfl)⟩
   | bundle n=>
    rw[hA] at hb
    obtain⟨dxh,hh'⟩:=hb
    refine ZKl
    refine ZW
    refine ZZ
    exact⟨_,rfl,L.p,_,L.dx,_,rfl,hp1,T.cl_Thread,T.na_cq,fJ,fin _ (by rw[hA,len];rfl)⟩
noncomputable def ThA.cutAt (T:ThA) (p:Int):ThA:={ T with evs:=T.evs.take p.toNat,ws:=T.ws.filter (λ y=>decide (y<=p)),down:=min T.down p }
def ThA.pt (T:ThA) (y:Int):Prop:=∃ w∈T.ws,y=w\/(w<y/\y<=T.down)
theorem ThA.pY {T:ThA}{j:Int}{F:Zc}{y:Int}(e:T.ws=j::F) (h:∀ y∈j::F,j<=y):T.pt y↔y∈j::F\/(j<=y/\y<=T.down):=by
 unfold ThA.pt
 rw[e]
 constructor
 ·rintro⟨J,G,z|z⟩
  ·rw[z];exact .inl G
  ·have:=h J G;exact .inr ZC
 ·rintro(z|z)
  ·exact⟨y,z,Z0N⟩
  ·by_cases q:y=j
   ·exact⟨j,FZ,ZJT⟩
   ·exact⟨j,FZ,.inr ZC⟩
theorem j3:iV ns++[V.int i]=iV (ns++[i]):=by unfold iV;rw[F0];rfl
theorem eB:(ZIX).length=ns.length:=by unfold iV;rw[FO]
theorem iO {ns:Zc}{i:Nat}{x:V}(h:(ZIX)[i]? = some x):∃ j,x=V.int j/\ns[i]? = some j:=by
 unfold iV at h
 rw[FP] at h
 obtain⟨j,e,rfl⟩:=Gs.mp h
 exact⟨j,rfl,e⟩
--@for k02 k03
def yI (K:W.Frag) (t:Adr):Sp:=λ vs H Q _=>∃ p dx i ha dn wr d w0 ws xs y b,vs=[Zs,Z6Y,.bl b]/\H p=some Zv/\H wr=some (.lst (iV (w0::ws)))/\SqL K H dn xs/\Q (.bl (decide ((b=true/\y=xs.length)\/y∈w0::ws\/(w0<=y/\y<=d)))) H
theorem yf (T:ZJ):dk P w K mg base ZM 3 t.f_ax t.fd_ax ["self","place","stands"] (yI K t):=by
 refine T.F_ax.okN Fc Z6 (λ U A outer s H vs Q E O h=>?_)
 ·obtain⟨p,dx,i,L,J,wr,d,j,F,xs,y,b,rfl,_⟩:=h;rfl
 ·obtain⟨p,dx,i,L,J,wr,d,j,F,xs,y,b,rfl,G,Y,W,k⟩:=h
  refine⟨_,(cD (dy (PW.pt (jw (dN ZV) (iw (dN (cW ZX T.cl_Thread T.me_aw (uj (K:=K) T) (O.mono Z4) T.b_aw .nil cH Zf)))))
    Z0T
    da)
   (cE (cQ (cW ZX T.cl_Thread T.me_ao ZMK (O.mono Z4) T.b_ao .nil cH Zf)))),?_⟩
  have rest:Q (.bl (decide (y∈j::F\/(j<=y/\y<=d)))) H->(uI (lO t.c_Thread "is_point" (yc t) [] ER0 ZCN (gg ZAj lD))) { nx:=λ x H'=>Z8d,rt:=Q } [Z7S,Z1d,ZCa] H:=λ q=>
   ⟨_,rfl,p,dx,_,rfl,G,rfl,_,rfl,p,dx,i,L,J,wr,d,j,F,y,rfl,G,Y,q⟩
  refine ZEo
  cases b with
  | false=>
   refine fG (fG (rest ?_))
   have e:decide ((false=true/\y=(xs.length:Int))\/y∈j::F\/(j<=y/\y<=d))=decide (y∈j::F\/(j<=y/\y<=d)):=by rw[Hn,GA,GA];simp
   rw[<- e];exact k
  | true=>
   refine fC ⟨_,rfl,p,dx,_,rfl,G,rfl,_,rfl,p,dx,i,L,J,wr,d,xs,y,rfl,G,W,_,rfl,?_⟩
   by_cases c:y=(xs.length:Int)
   ·refine gE (Gg c) ?_
    have e:decide ((true=true/\y=(xs.length:Int))\/y∈j::F\/(j<=y/\y<=d))=true:=Gg (.inl ⟨rfl,c⟩)
    rw[e] at k;exact k
   ·refine eA (GW c) (rest ?_)
    have e:decide ((true=true/\y=(xs.length:Int))\/y∈j::F\/(j<=y/\y<=d))=decide (y∈j::F\/(j<=y/\y<=d)):=by
     rw[Hn,GA,GA]
     exact⟨λ h=>h.elim (λ z=>absurd z.2 c) id,.inr⟩
    rw[<- e];exact k
theorem jX.take (h:ZKE) (n):jX K t G (es.take n) (As.take n):=by
 refine⟨by rw[Gu,Gu,h.1],λ i e A a b=>?_⟩
 rw[List.getElem?_take] at a b
 split at a
 ·next j=>rw[FX j] at b;exact ZLP
 ·cases a
theorem wN (h:0<=y):mN xs none (some y)=xs.take y.toNat:=by
 unfold mN
 show (xs.drop 0).take (HT.sIx xs.length xs.length (some y)-0)=_
 obtain⟨n,rfl⟩:∃ n:Nat,y=n:=⟨y.toNat,Z1⟩
 rw[HT.xk,List.drop_zero,Nat.sub_zero,GB,Nat.min_comm,<- List.take_take]
 rw[JC (l:=xs.take n) (by rw[Gu];lia)]
def yx (K:W.Frag) (t:Adr):Sp:=λ vs H Q _=>∃ G L A w0 ws y b,vs=[Zk,Z6Y,.bl b]/\Th K t G H L A/\A.ws=w0::ws/\(∀ z∈w0::ws,w0<=z)/\0<=w0/\A.ws.length<=900 /\
 ((b=true/\y=A.evs.length)->Q .non H)/\(¬ (b=true/\y=A.evs.length)->A.pt y->∀ H' dn wr,But ZIq H H'->H dn=none->H wr=none->Th K t G H' { L with dn:=dn,wr:=wr } (A.cutAt y)->Q .non H')/\(¬ (b=true/\y=A.evs.length)->A.pt y)
theorem EF (T:ZJ):dk P w K mg base ZM 4 t.f_cs t.fd_cs ["self","place","stands"] (yx K t):=by
 refine T.F_cs.okN Dh Z6 Z7h
 ·obtain⟨G,L,A,w0,ws,y,b,rfl,_⟩:=h;rfl
 ·obtain⟨G,L,A,w0,ws,y,b,rfl,th,ew,a3,h0,a8,k1,k2,k3⟩:=h
  refine⟨_,(cD (dy (eE (dN (cW ZX T.cl_Thread T.me_ax ZMI Z0 T.b_ax .nil cH Z7m)))
    ZAm
    da)
   (cD (dy (PW.pt (jw (dN ZV) (iw Z2h)))
    (cE rO)
    da)
   (cD (dj (K:=K) ZX (nN (oj (K:=K)) Z2 qK (qR ZI)) rfl)
   (cD (dj (K:=K) ZX (dH ["self","place","stands","writing"] 1 rfl Z1W (λ _ _ _ _ _=>⟨(cN (i:=3) (show List.Nodup (["self","place","stands","writing"]:ZT) from by decide +kernel) rfl Z5),ZDC,Z1E⟩)) rfl)
   (cE (dj (K:=K) ZX (dB (sQ rfl) rfl T.no_min yd (cF Z2 Zf)) rfl)))))),?_⟩
  obtain⟨es,hd,a2⟩:=th.done
  have hw:H L.wr=some (.lst (iV (w0::ws))):=by rw[<- ew];exact th.fR
  refine⟨_,rfl,L.p,L.dx,_,rfl,th.self,rfl,_,rfl,_,rfl,L.p,L.dx,_,_,_,_,_,w0,ws,es,y,b,rfl,th.self,hw,Z38,_,rfl,?_⟩
  have U:(es.length:Int)=A.evs.length:=by rw[a2.1]
  rw[U]
  by_cases c:b=true/\y=A.evs.length
  ·refine eA (by rw[Gg (Or.inl c)];rfl) ?_
   refine⟨_,rfl,_,rfl,gE c.1 ⟨_,rfl,L.p,L.dx,_,rfl,th.self,rfl,_,rfl,L.p,L.dx,_,_,_,_,_,es,y,rfl,th.self,Z38,_,rfl,gE (by rw[U];exact Gg c.2) (k1 c)⟩⟩
  ·by_cases p:A.pt y
   ·have p':=(ThA.pY ew a3).mp p
    refine eA (by rw[Gg (Or.inr p')];rfl) ?_
    have y0:0<=y:=by
     rcases p' with z|z
     ·have:=a3 y z;omega
     ·omega
    have a6:∀ D:Ends,D.nx [ZE,Z1d,ZCa] H->wH (Fd (tB ZJf) (tB (lO t.c_Thread "is_here" (yn K t) [] ER0 ZCN (gg ZAj lD)))) yu vJ D [ZE,Z1d,ZCa] H:=λ D kd=>by
     refine ZEo
     by_cases hb:b=true
     ·refine gE hb ⟨_,rfl,L.p,L.dx,_,rfl,th.self,rfl,_,rfl,L.p,L.dx,_,_,_,_,_,es,y,rfl,th.self,Z38,_,rfl,eA (GW λ z=>c ⟨hb,by rw[<- U];exact z⟩) kd⟩
     ·exact eA (by simpa using hb) (fG kd)
    refine a6 _ ?_
    refine⟨_,rfl,L.p,_,L.dx,_,.ref L.dn,rfl,th.self,T.cl_Thread,T.na_cp,rfl,_,rfl,y,rfl,L.dn,es,rfl,Z38,λ F V=>?_⟩
    have a1:L.p≠F:=cB th.self V
    refine⟨_,rfl,L.p,_,L.dx,_,rfl,(by rw[cz a1];exact th.self),T.cl_Thread,T.na_cp,fJ,?_⟩
    rw[wN y0]
    have e1:cL "done" (Z9C) Z0X=thF A.first L.ha F L.wr A.down:=rfl
    rw[e1]
    have O:upd ZD8 L.p Z0L L.p=some Z0L:=cy
    have Y:upd ZD8 L.p Z0L F=some Z2u:=by rw[ZIf,cy]
    have b1:But ZIq H (upd ZD8 L.p Z0L):=λ q u n z=>by
     simp only[FL] at n
     rw[cz n];exact cG.new V _ _ z
    have Z:=b1 _ _ (by simp only[FL];exact Ne.symm Z7X) th.fR
    generalize upd (upd H F (.lst (es.take y.toNat))) L.p (.ins t.c_Thread L.dx (thF A.first L.ha F L.wr A.down))=H1 at O Y b1 Z ⊢
    refine⟨_,rfl,L.p,_,L.dx,_,ZAW,rfl,O,T.cl_Thread,T.na_av,rfl,L.wr,rfl,⟨_,ZLf⟩,dU (xs:=iV A.ws) (by rw[eB];omega) λ acc J=>⟨λ i W zs H2=>zs=iV ((A.ws.take i).filter (λ z=>decide (z<=y)))/\H2=upd H1 acc Z5P/\∃ o,W=[ZE,Z1d,ZCa,o],Z7O,?_,?_,?_⟩⟩
    ·rintro i W zs H2 hi ⟨rfl,rfl,_⟩
     refine⟨SqL.of (cG.new J _ _ Z),?_⟩
     rw[eB]
     exact Gd Z9r (by rw[Gu];omega)
    ·rintro i x W zs H2 hi hx ⟨rfl,rfl,o,rfl⟩
     obtain⟨j,rfl,hj⟩:=iO hx
     dsimp only[eh]
     have et:A.ws.take (i+1)=A.ws.take i++[j]:=by rw[GQ,hj];rfl
     refine⟨_,rfl,_,rfl,_,_,rfl,rfl,_,rfl,Z0W⟩
     ·have jy:=GH z
      refine⟨_,rfl,cy,Nx.mk hi ⟨?_,by rw[gv],_,rfl⟩⟩
      rw[et,Hy,HC (by simpa using jy),JI,j3]
     ·have jy:¬ j<=y:=λ q=>z (Gg q)
      refine ZAL
      rw[et,Hy,HD (by simpa using jy),JI,Gx]
    ·rintro W zs H2 ⟨rfl,rfl,o,rfl⟩
     rw[eB,Ho]
     have a5:L.p≠acc:=cB O J
     refine⟨_,rfl,L.p,_,L.dx,_,rfl,(by rw[cz a5];exact O),T.cl_Thread,T.na_av,fJ,?_⟩
     have e2:cL "writings" (Zt) (thF A.first L.ha F L.wr A.down)=thF A.first L.ha F acc A.down:=rfl
     rw[e2]
     refine⟨_,rfl,L.p,_,L.dx,_,.int A.down,rfl,cy,T.cl_Thread,T.na_cq,rfl,_,rfl,_,_,rfl,?_⟩
     refine⟨_,rfl,L.p,_,L.dx,_,rfl,cy,T.cl_Thread,T.na_cq,fJ,?_⟩
     rw[gv,wK]
     have em:(if y<A.down then y else A.down)=min A.down y:=by split<;>omega
     rw[em]
     have a4:F≠acc:=cB Y J
     have Ha:H acc=none:=by
      cases q:H acc with
      | none=>rfl
      | some u=>exact absurd J (by
        by_cases z:acc=L.p
        ·rw[z,O];simp
        ·rw[b1 _ _ (by simpa using z) q];simp)
     have gN:∀ {q:Addr},H q=none->G q=none:=λ{q} z=>by
      cases e:G q with
      | none=>rfl
      | some u=>rw[ZL9] at z;cases z
     have b3:But ZIq H (upd (upd H1 acc (.lst (iV (A.ws.filter (λ z=>decide (z<=y)))))) L.p (.ins t.c_Thread L.dx (thF A.first L.ha F acc (min A.down y)))):=λ q u n z=>by
      have n':=n
      simp only[FL] at n'
      rw[cz n'];exact cG.new J _ _ (b1 _ _ n z)
     refine k2 c p _ F acc b3 V Ha ⟨?_,th.hab,⟨es.take y.toNat,?_,a2.take _⟩,?_,b3.same th.held (λ q hq=>by rw[FL] at hq;rw[hq];exact th.gp),th.gp,gN V,gN Ha,a4⟩
     ·rw[cy];rfl
     ·show upd _ L.p _ F=_
      rw[ZIf,cz a4];exact Y
     ·show upd _ L.p _ acc=some (.lst (iV (A.ws.filter (λ z=>decide (z<=y)))))
      rw[ZIe,cy]
   ·exact absurd (k3 c) p
--@all
def qD (ws:Zc) (p k:Int):Prop:=(k=0/\∀ w∈ws,p<w)\/(k∈ws/\k<=p/\∀ w∈ws,w<=p->w<=k)
--@for k03
def Bb (K:W.Frag) (t:Adr):Sp:=λ vs H Q _=>∃ G L A y,vs=[Zk,Z6Y]/\Th K t G H L A/\A.ws.length<=900 /\
 ∀ kp H' wr,qD A.ws y kp->But ZIq H H'->H wr=none->Th K t G H' { L with wr:=wr } { A with ws:=A.ws.filter (λ z=>decide (z >= kp)) }->Q .non H'
theorem Ck (T:ZJ):dk P w K mg base ZM 1 t.f_ah t.fd_ah ["self","place"] (Bb K t):=by
 refine T.F_ah.okN yi Z6 Z1B
 ·obtain⟨G,L,A,y,rfl,_⟩:=h;rfl
 ·obtain⟨G,L,A,y,rfl,th,a5,k⟩:=h
  refine⟨_,(cD (cV (i:=2) yi.nd rfl Z1R (wW (K:=K) rfl rfl T.no_max wC (cF (dH ["self","place","kept","writing"] 1 rfl Z1W (λ _ _ _ _ _=>⟨(cN (i:=3) (show List.Nodup (["self","place","kept","writing"]:ZT) from by decide +kernel) rfl Z5),ZDC,Z1E⟩)) cC) (rZ cJ ui)))
   (cE (dj (K:=K) ZX (dH ["self","place","kept","writing"] 1 rfl Z1W (λ _ _ _ _ _=>⟨(cN (i:=3) (show List.Nodup (["self","place","kept","writing"]:ZT) from by decide +kernel) rfl Z5),(iD (cZ oS Z1E ZV Z0Z)),Z1E⟩)) rfl))),?_⟩
  have go:∀ J acc ns,H acc=none->qD A.ws y J->z9 K ZCN (sj (qS K (nh K ZCN "writings")) 1 (eh 3) (vG (tOp (rI0 λ i j=>V.bl (decide (i >= j))) (dZ 3) ZJf)) (dZ 3)) "writings" { nx:=λ x H'=>Z8d,rt:=Q } ZDU ZEU:=λ J acc ns na W=>by
   have O:cG H ZEU:=cG.new na
   generalize upd H acc (.lst ns)=H1 at O ⊢
   have w1:=O _ _ th.fR
   refine⟨_,rfl,L.p,_,L.dx,_,ZAW,rfl,Z5f,T.cl_Thread,T.na_av,rfl,L.wr,rfl,⟨_,SqL.of w1⟩,mv (ns:=A.ws) (p:=λ z=>decide (z >= J)) (σ:=ZDU) Z1 (SqL.of w1) Z3Q λ F n2=>?_⟩
   have Y:L.p≠F:=cB Z5f n2
   refine⟨_,rfl,L.p,_,L.dx,_,rfl,(by rw[cz Y];exact Z5f),T.cl_Thread,T.na_av,fJ,?_⟩
   have e2:cL "writings" (Z9C) Z0X=thF A.first L.ha L.dn F A.down:=rfl
   rw[e2]
   have Z:H F=none:=by
    cases q:H F with
    | none=>rfl
    | some u=>rw[O _ _ q] at n2;cases n2
   have gN:G F=none:=by
    cases e:G F with
    | none=>rfl
    | some u=>rw[ZL9] at Z;cases Z
   have b3:But ZIq H (upd (upd H1 F (.lst (iV (A.ws.filter (λ z=>decide (z >= J)))))) L.p (.ins t.c_Thread L.dx (thF A.first L.ha L.dn F A.down))):=λ q u n z=>by
    have n':=n
    simp only[FL] at n'
    rw[cz n'];exact cG.new n2 _ _ (O _ _ z)
   obtain⟨es,hd,a1⟩:=th.done
   have a3:L.p≠L.dn:=Z9Q
   refine k J _ F W b3 Z ⟨?_,th.hab,⟨es,?_,a1⟩,?_,b3.same th.held (λ q hq=>by rw[FL] at hq;rw[hq];exact th.gp),th.gp,th.gd,gN,cB hd Z⟩
   ·rw[cy]
   ·exact b3 _ _ (by simp only[FL];exact Ne.symm a3) hd
   ·show upd _ L.p _ F=some (.lst (iV (A.ws.filter (λ z=>decide (z >= J)))))
    rw[cz (Ne.symm Y),cy]
  refine⟨_,rfl,L.p,_,L.dx,_,ZAW,rfl,th.self,T.cl_Thread,T.na_av,rfl,L.wr,rfl,⟨_,Z93⟩,mv (ns:=A.ws) (p:=λ z=>decide (z<=y)) (σ:=[ZE,Z1d,none]) Z1 Z93 Z3Q λ acc na=>⟨acc,_,_,rfl,rfl,Z83,λ e0=>?_,λ m U=>?_⟩⟩
  ·refine go 0 acc _ na (.inl ⟨rfl,λ w hw=>?_⟩)
   have:=IU.mp e0 w hw
   have:¬ w<=y:=by simpa using this
   lia
  ·refine go m acc _ na (.inr ⟨(GG.mp U.1).1,GH (GG.mp U.1).2,λ w hw hy=>U.2 w (GG.mpr ⟨hw,Gg hy⟩)⟩)
--@all
def pQ (K:W.Frag):Sp:=λ vs H Q _=>∃ a ns k,vs=[Z_,.int k]/\SqL K H a Z1Z/\0<=k/\∀ c:Int,Q ZAY H
theorem kW (T:ZJ):dk P w K mg base ZM 1 t.f_bk t.fd_bk ["_law_script","_law_k"] (pQ K):=by
 refine T.F_bk.okN Be Z6 (λ L A outer s H vs Q E O h=>?_)
 ·obtain⟨a,j,k,rfl,_⟩:=h;rfl
 ·obtain⟨a,j,k,rfl,J,h0,q⟩:=h
  refine⟨_,(cD (dy (cZ pq ZI Z7J Z0Z)
    (cE (cQ ZI0))
    da)
   (cE (cQ cJ))),?_⟩
  refine⟨_,rfl,_,rfl,a,_,rfl,.inl J,_,_,rfl,rfl,_,rfl,fY Z2t λ _=>q 0⟩
  have F:k<(iV j).length:=GH z
  have G:k.toNat<j.length:=by unfold iV at F;rw[FO] at F;lia
  refine⟨_,rfl,_,rfl,a,_,k,.int j[k.toNat],rfl,rfl,J,?_,q _⟩
  unfold atI ixN
  rw[FX h0,FX F]
  show (iV j)[k.toNat]? = _
  unfold iV
  rw[FP,FJ G]
  rfl
def vL:Sp:=λ vs H Q _=>∃ c k:Int,vs=[ZAY,.int k]/\0<=k/\k<=1000/\∀ c:Int,Q ZAY H
theorem jL (T:ZJ):dk P w K mg base ZM 1 t.f_ct t.fd_ct ["_law_cell","_law_k"] vL:=by
 refine T.F_ct.okN qN Z6 (λ F A outer s H vs Q E G h=>?_)
 ·obtain⟨c,k,rfl,_⟩:=h;rfl
 ·obtain⟨c,k,rfl,h0,h1,q⟩:=h
  refine⟨_,(cD (cV (i:=2) qN.nd rfl Z5 (cS eg (cS gW (cS dM (cS dM (cS iR ZX cJ) ZMa) cJ) cJ) cJ))
   (cD Z2S
   (cD Z2S
   (cE (cQ (cS Ag ZV (cS iR (cS kx ZX (cS dM ZMa cJ)) cJ))))))),?_⟩
  refine⟨_,rfl,_,_,rfl,rfl,_,rfl,_,_,rfl,rfl,.inl Z1U,_,_,rfl,rfl,_,_,rfl,rfl,_,_,rfl,rfl,.inr Z1U,_,_,rfl,rfl,by show (0:Int)<2147483647;decide,?_⟩
  have j:∀ x:Int,-(2 ^ 64)<x%2147483647/\x%2147483647<2 ^ 64:=λ x=>by
   have h1:=He x (b:=2147483647) Z4
   have h2:=GR x (b:=2147483647) Z4
   lia
  refine⟨_,rfl,_,rfl,_,_,rfl,rfl,Z1U,_,_,rfl,rfl,_,_,rfl,rfl,.inl (j _),_,_,rfl,rfl,by show (0:Int)<2147483647;decide,?_⟩
  refine⟨_,rfl,_,rfl,_,_,rfl,rfl,Z1U,_,_,rfl,rfl,_,_,rfl,rfl,.inl (j _),_,_,rfl,rfl,by show (0:Int)<2147483647;decide,?_⟩
  exact⟨_,rfl,_,rfl,_,rfl,_,_,rfl,rfl,.inl Z1U,_,_,rfl,rfl,_,_,rfl,rfl,by show (0:Int)<=31*k+31;lia,_,_,rfl,rfl,_,_,rfl,rfl,q _⟩
theorem jE.same (s:Z7Y) (h:jE t G ha hb):jE t G' ha hb:=by
 cases hb<;>exact let ⟨dx,z⟩:=h;⟨dx,s _ _ z⟩
theorem Th.keep (h:Th K t G H L A) (q:Z7Y) (s':ZL_) (j:∀ b o,b∈[L.p,L.dn,L.wr]->H b=some o->H' b=some o) (n:∀ b∈[L.p,L.dn,L.wr],G' b=none):Th K t G' H' L A:=by
 obtain⟨es,h1,h2⟩:=h.done
 exact⟨j _ _ Z8 h.self,h.hab.same q,⟨es,j _ _ Ze h1,h2.same q⟩,j _ _ Z8F h.fR,s',n _ ZFQ,n _ (by simp),n _ (by simp),h.ne⟩
def EW:Sp:=λ vs H Q _=>∃ b x y z,vs=[Zj]/\H b=some ZHU/\∀ H',cG H H'->Q Z2N H'
theorem yq (T:ZJ):dk P w K mg base ZM 2 t.f_du t.fd_du ["value"] EW:=by
 refine T.F_du.okN El Z6 (λ U A outer s H vs Q E W h=>?_)
 ·obtain⟨b,x,y,z,rfl,_⟩:=h;rfl
 ·obtain⟨b,x,y,z,rfl,L,k⟩:=h
  refine⟨_,(cD (dy (PW.pt (hZ (eE (dN (dB ZAh rfl T.no_isinstance fQ (cF ZX (cF (j7 (v:=.ty "tuple") rfl T.no_tuple qO rfl) cC))))) (gS (cZ yh Z7J cJ Z0Z))))
    Z0T
    da)
   (cE (cQ (dB (tF rfl (K:=K)) rfl T.no_all BW (cF (dH ["value","part"] 1 rfl (xv (K:=K) ZX) (λ _ _ _ _ _=>⟨(cN (i:=1) (show List.Nodup (["value","part"]:ZT) from by decide +kernel) rfl Z5),dG,(cU ZDB (W.mono Z4) rfl T.mg_dm T.kp_dm T.b_dm .nil cH Zf)⟩)) cC))))),?_⟩
  refine⟨_,rfl,_,_,.plain (.tup L),iq _ _,_,rfl,fG ⟨_,rfl,_,_,rfl,.inr ZLe,rfl,_,rfl,eA Z8 ?_⟩⟩
  refine⟨_,rfl,b,rfl,⟨_,ZLe⟩,vb (xs:=Z3P) (by show 3<=1000;decide) λ acc G=>⟨λ i F ys H2=>ys=List.replicate i (Z0h)/\H2 acc=some Zb/\cG H H2/\∃ o,F=[Z9y,o],⟨rfl,cy,cG.new G,_,rfl⟩,?_,?_,?_⟩⟩
  ·rintro i F ys H2 hi ⟨rfl,_,J,_⟩
   exact⟨J.tup ZLe,Ze⟩
  ·rintro i v F ys H2 hi q ⟨rfl,O,J,o,rfl⟩
   obtain⟨j,rfl⟩:∃ j,v=.int j:=by
    match i,q with
    | 0,q=>exact⟨x,by simpa using q.symm⟩
    | 1,q=>exact⟨y,by simpa using q.symm⟩
    | 2,q=>exact⟨z,by simpa using q.symm⟩
    | n+3,q=>simp at q
   dsimp only[eh,gy]
   refine fC ⟨_,rfl,j,rfl,O,Z26⟩
   ·rw[JQ]
   ·rw[cz (cB e G)];exact J _ _ e
  ·rintro F ys H2 ⟨rfl,O,J,o,rfl⟩
   exact⟨acc,[true,true,true],rfl,ZGT,k H2 J⟩
noncomputable def cd3 (n:Nm3):Int:=n.1*1000000+n.2.1*1000+n.2.2
def Small (n:Nm3):Prop:=0<=n.2.1/\n.2.1<1000/\0<=n.2.2/\n.2.2<1000
theorem qW (j:Small a) (q:Small b) (h:cd3 a=cd3 b):a=b:=by
 obtain⟨x,y,z⟩:=a
 obtain⟨F,G,J⟩:=b
 unfold cd3 at h
 unfold Small at j q
 dsimp only at h j q
 have:x=F:=Z1
 have:y=G:=Z1
 have:z=J:=Z1
 subst F;subst G;subst J;rfl
def tL (l:Z1L):Prop:=l.Pairwise λ a b=>cd3 a<cd3 b
noncomputable def nk (n:Nm3):Z9l:=[.inl n.1,.inl n.2.1,.inl n.2.2]
structure fk where
 (nm:Nm3) (adr:Addr) (to wd:Int)
structure DiL where
 (po ta wy:Addr)
structure DiA where
 po:ZJ4
 ta:List (Nm3×Int)
 wy:List ((Int×Int)×Addr×List Nm3)
noncomputable def wk (k:Int×Int):Z9l:=[.inl k.1,.inl k.2]
noncomputable def DiL.own (L:DiL) (A:DiA):Zq:=[L.po,L.ta,L.wy]++A.wy.map (·.2.1)
structure Di (G H:Hp) (L:DiL) (A:DiA):Prop where
 po:H L.po=some (.dT (A.po.map λ l=>(Z0i,Z0P)))
 ta:H L.ta=some (.dT (A.ta.map λ e=>(Z1J,Z0Y)))
 wy:H L.wy=some (.dT (A.wy.map λ e=>(Z3l,Z1h)))
 ways:∀ e∈A.wy,H e.2.1=some (.dT (e.2.2.map λ n=>(Z6L,Z0h)))
 lets:∀ l∈A.po,G l.adr=some ZI8
 held:ZGO
 nd:(L.own A).Nodup
 gn:∀ b∈L.own A,G b=none
structure WfD (m:Int) (c:Int->Int) (A:DiA):Prop where
 nd:(A.po.map (·.nm)).Nodup
 nt:(A.ta.map (·.1)).Nodup
 rg:∀ l∈A.po,0<=l.nm.1/\l.nm.1<m/\1<=l.nm.2.1/\l.nm.2.1<=c l.nm.1/\0<=l.nm.2.2/\l.nm.2.2<3/\0<=l.to/\l.to<m
 wn:(A.wy.map (·.1)).Nodup
 wi:∀ e∈A.wy,∀ n,n∈e.2.2↔∃ l∈A.po,l.nm=n/\n.1=e.1.1/\l.to=e.1.2/\n∉A.ta.map (·.1)
 wd:∀ e∈A.wy,e.2.2.Nodup
 wa:∀ l∈A.po,l.nm∉A.ta.map (·.1)->∃ e∈A.wy,e.1=(l.nm.1,l.to)
 t1:∀ e∈A.ta,1<=e.2
noncomputable def loF (dz:Addr) (many:Int) (ord:Bool) (lt lg:Addr) (D:DiL):List (Str×V):=
 [("does",Z1v),("many",.int many),("ordered",.bl ord),("threads",.ref lt),("log",Z7d),("posted",.ref D.po),("taken",.ref D.ta),("ways",.ref D.wy)]
def yH (t:Adr):Sp:=λ vs H Q _=>∃ p dx dz m o lt lg D h,vs=[Zs,Z5x]/\H p=some Z0t/\0<=h/\h<m/\Q .non H
theorem ml (T:ZJ):dk P w K mg base ZM 2 t.f_aq t.fd_aq ["self","hand"] (yH t):=by
 refine T.F_aq.okN Br Z6 (λ j A outer s H vs Q E G h=>?_)
 ·obtain⟨p,dx,q,m,o,L,J,D,h,rfl,_⟩:=h;rfl
 ·obtain⟨p,dx,q,m,o,L,J,D,h,rfl,F,h0,h1,k⟩:=h
  refine⟨_,(cE (dy (PW.pt (hZ (eE (dN Z2a)) (hZ (cZ pq ZI cJ Z0Z) (gS (cZ oS ZI Z2 Z0Z)))))
    ZAm
    da)),?_⟩
  refine⟨_,rfl,h,rfl,true,rfl,fG ⟨_,rfl,_,_,rfl,rfl,_,rfl,eA (by simpa using h0) ⟨_,rfl,_,rfl,p,_,dx,_,_,rfl,F,T.cl_Loom,T.na_dk,rfl,_,_,rfl,rfl,_,rfl,eA (by simpa using h1) k⟩⟩⟩
def wA (t:Adr):Sp:=λ vs H Q _=>∃ p dx dz m o lt lg D,∃ j:Nat,∃ r q qs xs dxq i ha dn wr d es,vs=[Zs,Z0r,ZEK]/\H p=some Z0t/\H lt=some (.lst qs)/\H lg=some ZQ/\xs.length<=900/\qs[j]? = some Z2P /\
 H q=some (.ins t.c_Thread dxq (thF i ha dn wr d))/\H dn=some Z6c/\∀ e pl H',But [lg] H H'->H' lg=some (.lst (xs++[ZGX]))->H' e=some ZI7->Q .non H'
theorem vE (T:ZJ):dk P w K mg base ZM 2 t.f_be t.fd_be ["self","hand","row"] (wA t):=by
 refine T.F_be.okN E8 Z6 Z0I
 ·obtain⟨p,dx,dz,m,o,Y,W,D,j,r,q,Z,xs,F,i,U,L,wr,d,es,rfl,_⟩:=h;rfl
 ·obtain⟨p,dx,dz,m,o,Y,W,D,j,r,q,Z,xs,F,i,U,L,wr,d,es,rfl,V,hl,G,a2,hq,O,hd,k⟩:=h
  refine⟨_,(cE (cR (dQ (K:=K) F5 Gj Gi dA Z2 (cF (eC (cF ZV (cF (cX Z2_ T.cl_Thread T.me_cd ZDD Z0 T.b_cd .nil cH) cC))) cC)))),?_⟩
  refine⟨_,rfl,p,_,dx,_,_,rfl,V,T.cl_Loom,T.na_ds,rfl,.inl ⟨rfl,xs,SqL.of G⟩,_,rfl,?_⟩
  refine⟨_,rfl,p,_,dx,_,_,rfl,V,T.cl_Loom,T.na_bx,rfl,_,rfl,Y,Z,j,Z2P,rfl,rfl,SqL.of hl,dW hq,q,F,_,rfl,O,rfl,?_⟩
  refine⟨q,F,i,U,L,wr,d,es,rfl,O,Z38,by show 2<=sizeLine;decide,λ b J=>?_⟩
  refine⟨W,xs,Zj,rfl,rfl,by rw[cz (cB G J)];exact G,dc Z1,k _ _ _ (λ c u n e=>?_) cy (by rw[cz (cB G J).symm];exact cy)⟩
  rw[cz (by simpa using n),cz (cB e J)];exact e
theorem eS {α κ:Type} [ZBX] (f:α->κ) (g:α->V):∀ {l:List α}{a:α},(ZFM).Nodup->a∈l->eu (l.map λ x=>(f x,g x)) (f a)=some (g a)
 | [],_,_,h=>by cases h
 | x::l,a,nd,h=>by
  rw[Gq] at nd ⊢
  obtain⟨n1,n2⟩:=Z9m
  by_cases e:f x=f a
  ·rw[hJ e]
   rcases FR.mp h with rfl|h
   ·rfl
   ·exact absurd (show f x∈l.map f by rw[e];exact F4 h) n1
  ·rw[gF e]
   rcases FR.mp h with rfl|h
   ·exact absurd rfl e
   ·exact eS f g n2 h
theorem gL [ZBX] (f:α->κ) (g:α->V):∀ {l:List α},(∀ x∈l,f x≠k)->eu (l.map λ x=>(f x,g x)) k=none
 | [],_=>rfl
 | x::l,h=>by
  rw[Gq,gF ZGM]
  exact gL f g λ y j=>h y ZGh
theorem fH {q F G:Type}{f:q->F}{g:F->G}{l:List q}(j:∀ a b,g a=g b->a=b) (h:(ZFM).Nodup):(l.map λ x=>g (f x)).Nodup:=by
 unfold List.Nodup at h ⊢
 rw[Hj] at h ⊢
 exact ZBN
theorem yZ {q F:Type}{g:q->F}{l:List q}(j:∀ a b,g a=g b->a=b) (h:l.Nodup):(l.map g).Nodup:=by
 unfold List.Nodup at h ⊢
 rw[Hj]
 exact ZBN
theorem eZ (a b:Nm3) (h:nk a=nk b):a=b:=by
 obtain⟨x,y,z⟩:=a
 obtain⟨j,q,F⟩:=b
 simp only[nk,List.cons.injEq,Sum.inl.injEq] at h
 obtain⟨rfl,rfl,rfl,_⟩:=h
 rfl
theorem jF (a b:Int×Int) (h:wk a=wk b):a=b:=by
 obtain⟨x,y⟩:=a
 obtain⟨j,q⟩:=b
 simp only[wk,List.cons.injEq,Sum.inl.injEq] at h
 obtain⟨rfl,rfl,_⟩:=h
 rfl
theorem rF {H:Hp}{b:Addr}{n:Nm3}(h:H b=some Z3K):Rp K H Zj (ZAS):=.tup (SqT.of h) (.cons (.int _) Z2M)
def AU (t:Adr):Sp:=λ vs H Q _=>∃ G p dx dz m o lt lg D A h b n e,vs=[Zs,Z5x,Zj]/\H p=some Z0t/\Di G H D A/\H b=some Z3K/\e∈A.wy/\(A.wy.map (·.1)).Nodup/\e.1=(n.1,h)/\n∈e.2.2/\e.2.2.Nodup/\(∀ m∈e.2.2,Small m)/\(o=true->∀ m∈e.2.2,cd3 n<=cd3 m) /\
 ∀ H',cG H H'->Q Z2N H'
theorem EX (T:ZJ):dk P w K mg base ZM 3 t.f_bn t.fd_bn ["self","hand","name"] (AU t):=by
 refine T.F_bn.okN yJ Z6 ZB
 ·obtain⟨G,p,dx,dz,m,o,lt,lg,D,A,h,b,n,e,rfl,_⟩:=h;rfl
 ·obtain⟨G,p,dx,dz,m,o,lt,lg,D,Di,h,b,n,e,rfl,hp,di,hb,he,wn,ek,hn,en,sm,od,k⟩:=h
  refine⟨_,(cD (dy (eE (dN (cU ZMG Z0 rfl T.mg_du T.kp_du T.b_du .nil cH Z0x)))
    Z0T
    da)
   (cD (cV (i:=3) yJ.nd rfl Z5 (vx Z1H Z2 (eC Z5O) uD ZDl))
   (cD (dy (nB (iC Z1H ZV Z1E))
    Z0T
    da)
   (cE (cQ (Dt (qp Z2) (jx (eX Z6z ZV (dB (sE rfl Z1H) rfl T.no_min yd Z2s) Z0Z)))))))),?_⟩
  refine⟨_,rfl,b,n.1,n.2.1,n.2.2,rfl,hb,λ H1 s1=>ZEn⟩
  refine⟨_,rfl,p,_,dx,_,_,rfl,s1 _ _ hp,T.cl_Loom,T.na_dl,rfl,D.wy,rfl,.inr ⟨_,.inl (s1 _ _ di.wy)⟩,?_⟩
  refine⟨_,rfl,b,nV n,0,.int n.1,rfl,rfl,SqT.of ZIN,dR,_,rfl,by show 2<=sizeLine;decide,λ q hq l hl=>?_⟩
  have s2:cG H Z2f:=s1.trans (cG.new hq)
  have s3:cG H (upd Z2f l ZGi):=s2.trans (cG.new hl)
  have hq3:upd Z2f l ZGi q=some (.tup ((wk (n.1,h)).map kV)):=by rw[cz (cB cy hl),cy];rfl
  have v1:eu (Di.wy.map λ e=>(Z3l,Z1h)) (wk (n.1,h))=some (.ref e.2.1):=by
   rw[<- ek]
   exact eS (λ e=>Z3l) ZFn (fH (f:=λ x:(Int×Int)×Addr×List Nm3=>x.1) jF wn) he
  have v2:eu (e.2.2.map λ n=>(Z6L,Z0h)) (Z6L)=some Z2N:=eS nk ZFo (yZ eZ en) hn
  refine⟨_,.inr ⟨_,wk (n.1,h),q,.inl (s3 _ _ di.wy),rfl,hq3,v1.symm⟩,?_⟩
  refine⟨_,rfl,_,rfl,e.2.1,_,rfl,.inr ⟨_,Z6L,b,Z9p,rfl,ZIM,v2.symm⟩,_,rfl,fG ?_⟩
  refine⟨_,rfl,p,_,dx,_,_,rfl,s3 _ _ hp,T.cl_Loom,T.na_bw,rfl,o,rfl,_,rfl,?_⟩
  cases o with
  | false=>exact fC (k _ s3)
  | true=>
   refine fG ⟨_,rfl,_,rfl,e.2.1,_,e.2.2,rfl,Z9p,?_,Ig hn,sm,λ b' n' hn' le hb'=>?_⟩
   ·unfold yW
    rw[GJ]
    rfl
   ·have e1:=od rfl n' hn'
    have e2:=le n hn
    have en:n=n':=qW (sm n hn) (sm n' hn') (by unfold cd3 at e1 ⊢;unfold Tim.fA at e2;lia)
    subst en
    refine⟨_,_,rF ZIM,rF hb',rfl,rfl,?_⟩
    have:PyData.eqv ZAS (ZAS)=true:=kY rfl
    show Q (.bl (PyData.eqv _ _)) _
    rw[this]
    exact k _ s3
noncomputable def eD (wy:List ((Int×Int)×Addr×List Nm3)) (k:Int×Int) (n:Nm3) (q:Addr):List ((Int×Int)×Addr×List Nm3):=
 if k∈wy.map (·.1) then wy.map (λ e=>if e.1=k then (e.1,e.2.1,e.2.2++[n]) else e) else wy++[(k,q,[n])]
noncomputable def DiA.lZ (A:DiA) (n:Nm3) (adr:Addr) (to wd:Int) (q:Addr):DiA:={ A with po:=A.po++[⟨n,adr,to,wd⟩],wy:=eD A.wy (n.1,to) n q }
theorem ki:(eD wy k n q).map (·.1)=if k∈wy.map (·.1) then wy.map (·.1) else wy.map (·.1)++[k]:=by
 unfold eD
 by_cases h:k∈wy.map (·.1)
 ·rw[FX h,FX h,GJ]
  exact GD λ e _=>by
   show (if e.1=k then (e.1,e.2.1,e.2.2++[n]) else e).1=e.1
   by_cases z:e.1=k
   ·rw[ZJC]
   ·rw[ZJD]
 ·rw[ZLz,ZLz,F0];rfl
theorem iE:e∈eD wy k n q->(∃ e0∈wy,e0.1=k/\e=(e0.1,e0.2.1,e0.2.2++[n]))\/(e∈wy/\e.1≠k)\/(k∉wy.map (·.1)/\e=(k,q,[n])):=by
 unfold eD
 by_cases h:k∈wy.map (·.1)
 ·rw[FX h,F2]
  rintro⟨e0,m,rfl⟩
  by_cases z:e0.1=k
  ·rw[ZJC];exact .inl ⟨e0,m,z,rfl⟩
  ·rw[ZJD];exact .inr (.inl ⟨m,z⟩)
 ·rw[ZLz,FY,FL]
  rintro(m|rfl)
  ·exact .inr (.inl ⟨m,λ z=>h (by rw[<- z];exact F4 m)⟩)
  ·exact .inr (.inr ⟨h,rfl⟩)
theorem WfD.lZ {m:Int}{c:Int->Int}{A:DiA}(w:ZDy) {n:Nm3}{adr q:Addr}{to wd:Int}(hn:n∉A.po.map (·.nm)) (nta:n∉A.ta.map (·.1))
  (r:0<=n.1/\n.1<m/\1<=n.2.1/\n.2.1<=c n.1/\0<=n.2.2/\n.2.2<3/\0<=to/\to<m):WfD m c (A.lZ n adr to wd q):=by
 have nwy:∀ e∈A.wy,n∉e.2.2:=λ e he z=>by
  obtain⟨l,hl,e1,_⟩:=(w.wi e he n).mp z
  exact hn (by rw[<- e1];exact F4 hl)
 refine⟨?_,w.nt,λ l hl=>?_,?_,λ e he n'=>?_,λ e he=>?_,λ l hl nt=>?_,w.t1⟩
 ·show ((A.po++[(⟨n,adr,to,wd⟩:fk)]).map fk.nm).Nodup
  rw[F0]
  refine GP.mpr ⟨w.nd,Z8,λ a ha b hb=>?_⟩
  rw[Ih,FL] at hb
  rw[hb];exact λ z=>hn (by have z':a=n:=z;rw[<- z'];exact ha)
 ·rcases FY.mp hl with hl|hl
  ·exact w.rg l hl
  ·rw[FL] at hl
   subst hl;exact r
 ·show ((eD A.wy (n.1,to) n q).map (·.1)).Nodup
  rw[ki]
  by_cases h:(n.1,to)∈A.wy.map (·.1)
  ·rw[FX h];exact w.wn
  ·rw[ZLz]
   refine GP.mpr ⟨w.wn,Z8,λ a ha b hb=>?_⟩
   rw[FL] at hb
   rw[hb];exact λ z=>h (by rw[<- z];exact ha)
 ·have lift:(∃ l∈A.po++[⟨n,adr,to,wd⟩],l.nm=n'/\n'.1=e.1.1/\l.to=e.1.2/\n'∉A.ta.map (·.1))↔(∃ l∈A.po,l.nm=n'/\n'.1=e.1.1/\l.to=e.1.2/\n'∉A.ta.map (·.1))\/(n=n'/\n'.1=e.1.1/\to=e.1.2/\n'∉A.ta.map (·.1)):=by
   constructor
   ·rintro⟨l,hl,z⟩
    rcases FY.mp hl with hl|hl
    ·exact .inl ⟨l,hl,z⟩
    ·rw[FL] at hl
     subst hl;exact ZEQ
   ·rintro(⟨l,hl,z⟩|z)
    ·exact⟨l,Gy _ hl,z⟩
    ·exact⟨_,Z8h,z⟩
  show n'∈e.2.2↔∃ l∈A.po++[⟨n,adr,to,wd⟩],l.nm=n'/\n'.1=e.1.1/\l.to=e.1.2/\n'∉A.ta.map (·.1)
  rw[lift]
  rcases iE he with ⟨e0,m0,k0,rfl⟩|⟨m0,k0⟩|⟨nk0,rfl⟩
  ·rw[FY,FL,w.wi e0 m0 n']
   refine or_congr Iff.rfl ⟨?_,λ z=>z.1.symm⟩
   rintro rfl
   exact⟨rfl,by rw[k0],by rw[k0],nta⟩
  ·rw[w.wi e m0 n']
   constructor
   ·exact .inl
   ·rintro(z|⟨rfl,z1,z2,_⟩)
    ·exact z
    ·exact absurd (Prod.ext z1.symm z2.symm) k0
  ·rw[FL]
   constructor
   ·rintro rfl
    exact .inr ⟨rfl,rfl,rfl,nta⟩
   ·rintro(⟨l,hl,rfl,z1,z2,z3⟩|z)
    ·obtain⟨e1,he1,z4⟩:=w.wa l hl z3
     refine absurd ?_ nk0
     rw[F2]
     refine⟨e1,he1,?_⟩
     rw[z4]
     exact Prod.ext z1 z2
    ·exact z.1.symm
 ·rcases iE he with ⟨e0,m0,k0,rfl⟩|⟨m0,k0⟩|⟨nk0,rfl⟩
  ·refine GP.mpr ⟨w.wd e0 m0,Z8,λ a ha b hb=>?_⟩
   rw[FL] at hb
   rw[hb];exact λ z=>nwy e0 m0 (by rw[<- z];exact ha)
  ·exact w.wd e m0
  ·show ([n]:Z1L).Nodup
   simp
 ·have keyIn:∀ k,(k∈A.wy.map (·.1)\/k=(n.1,to))->∃ e∈eD A.wy (n.1,to) n q,e.1=k:=λ k hk=>by
   have:k∈(eD A.wy (n.1,to) n q).map (·.1):=by
    rw[ki]
    by_cases h:(n.1,to)∈A.wy.map (·.1)
    ·rw[FX h]
     rcases hk with hk|rfl
     ·exact hk
     ·exact h
    ·rw[ZLz,FY,FL];exact hk
   obtain⟨e,he,z⟩:=F2.mp this
   exact⟨e,he,z⟩
  rcases FY.mp hl with hl|hl
  ·obtain⟨e,he,z⟩:=w.wa l hl nt
   exact keyIn _ (.inl (by rw[<- z];exact ZJI))
  ·rw[FL] at hl
   subst hl
   exact keyIn _ Z5k
theorem WfD.Bd (w:ZDy) (V:x.nm∉A.po.map (·.nm)) (ta:x.nm∈A.ta.map (·.1))
  (r:0<=x.nm.1/\x.nm.1<m/\1<=x.nm.2.1/\x.nm.2.1<=c x.nm.1/\0<=x.nm.2.2/\x.nm.2.2<3/\0<=x.to/\x.to<m):WfD m c { A with po:=A.po++[x] }:=by
 have q:∀ l,l∈A.po++[x]->l∈A.po\/l=x:=λ l j=>(FY.mp j).imp id FL.mp
 refine⟨?_,w.nt,λ l j=>(q l j).elim (w.rg l) λ z=>by rw[z];exact r,w.wn,λ e U n=>?_,w.wd,λ l j G=>(q l j).elim (λ z=>w.wa l z G) λ z=>absurd (by rw[z];exact ta) G,w.t1⟩
 ·show ((A.po++[x]).map fk.nm).Nodup
  rw[F0]
  refine GP.mpr ⟨w.nd,Z8,λ a O b F=>?_⟩
  rw[Ih,FL] at F
  rw[F];exact λ z=>V (by rw[<- z];exact O)
 ·refine(w.wi e U n).trans ⟨λ⟨l,j,z⟩=>⟨l,Gy _ j,z⟩,λ⟨l,j,J,L⟩=>(q l j).elim (λ y=>⟨l,y,J,L⟩) λ y=>?_⟩
  subst y;subst J
  exact absurd ta L.2.2
theorem DiL.gG {L:DiL}{A:DiA}{e:(Int×Int)×Addr×List Nm3}(h:e∈A.wy):e.2.1∈L.own A:=Gf _ (F4 h)
theorem DiL.eY {L:DiL}{A:DiA}{b:Addr}(h:b∈L.own A):b=L.po\/b=L.ta\/b=L.wy\/∃ e∈A.wy,b=e.2.1:=by
 rcases FY.mp h with h|h
 ·simp only[FR,FU,Ga] at h
  rcases h with h|h|h
  ·exact Z5z
  ·exact ZM9
  ·exact .inr ZM9
 ·obtain⟨e,j,rfl⟩:=F2.mp h
  exact .inr (.inr (.inr ⟨e,j,rfl⟩))
theorem Di.nes (d:Z4E):L.po≠L.ta/\L.po≠L.wy/\L.ta≠L.wy/\(∀ e∈A.wy,e.2.1≠L.po/\e.2.1≠L.ta/\e.2.1≠L.wy)/\∀ e∈A.wy,∀ F∈A.wy,e.2.1=F.2.1->e=F:=by
 have V:=d.nd
 unfold DiL.own at V
 obtain⟨q,Y,U⟩:=GP.mp V
 simp only[GX,FR,FU,Ga,Hz] at q
 refine⟨q.1.1,q.1.2,q.2.1,λ e J=>?_,λ e J F O z=>?_⟩
 ·have m:e.2.1∈A.wy.map (·.2.1):=F4 J
  exact⟨λ z=>U L.po Z8 _ m z.symm,λ z=>U L.ta Ze _ m z.symm,λ z=>U L.wy Z8F _ m z.symm⟩
 ·obtain⟨i,hi,rfl⟩:=Gm J
  obtain⟨j,W,rfl⟩:=Gm O
  have:i=j:=(Ht (l:=A.wy.map (·.2.1)) (by simpa using hi) Y).mp (by rw[FP,FP,FJ hi,FJ W];exact congrArg some z)
  subst this;rfl
theorem Di.isd {G H:Hp}{L:DiL}{A:DiA}(d:Z4E) {b:Addr}(h:b∈L.own A):∃ kvs,H b=some Zl:=by
 rcases DiL.eY h with rfl|rfl|rfl|⟨e,j,rfl⟩
 ·exact⟨_,d.po⟩
 ·exact⟨_,d.ta⟩
 ·exact⟨_,d.wy⟩
 ·exact⟨_,d.ways e j⟩
theorem Di.frame {G H H':Hp}{L:DiL}{A:DiA}(d:Z4E) (j:∀ b o,b∈L.own A->H b=some o->H' b=some o) (F:ZAC):Di G H' L A:=
 ⟨j _ _ (by unfold DiL.own;simp) d.po,j _ _ (by unfold DiL.own;simp) d.ta,j _ _ (by unfold DiL.own;simp) d.wy,λ e q=>j _ _ (DiL.gG q) (d.ways e q),d.lets,F,d.nd,d.gn⟩
theorem Di.Ca {G H H':Hp}{L:DiL}{A:DiA}{x:fk}(d:Z4E) (O:G x.adr=some (.tup [.int x.to,.int x.wd])) (h1:H' L.po=some (.dT ((A.po.map λ l=>(Z0i,Z0P))++[(nk x.nm,V.ref x.adr)])))
  (F:∀ b o,b≠L.po->b∈L.own A->H b=some o->H' b=some o) (J:ZAC):Di G H' L { A with po:=A.po++[x] }:=by
 obtain⟨U,W,Z,Y,_⟩:=d.nes
 refine⟨by rw[h1,F0];rfl,F _ _ (Ne.symm U) (by unfold DiL.own;simp) d.ta,F _ _ (Ne.symm W) (by unfold DiL.own;simp) d.wy,λ e q=>F _ _ (Y e q).1 (DiL.gG q) (d.ways e q),λ l j=>?_,J,d.nd,d.gn⟩
 rcases FY.mp j with j|j
 ·exact d.lets l j
 ·rw[FL] at j;subst j;exact O
theorem Di.Ah {G H H':Hp}{L:DiL}{A:DiA}{n:Nm3}{e0:(Int×Int)×Addr×List Nm3}(d:Z4E) (wn:(A.wy.map (·.1)).Nodup) (q:e0∈A.wy) (h1:H' e0.2.1=some (.dT ((e0.2.2.map λ n=>(Z6L,Z0h))++[(Z6L,Z0h)])))
  (J:∀ b o,b≠e0.2.1->b∈L.own A->H b=some o->H' b=some o) (hG:ZAC):Di G H' L { A with wy:=ZGz}:=by
 obtain⟨n1,n2,n3,Z,n5⟩:=d.nes
 have hk:e0.1∈A.wy.map (·.1):=F4 q
 have ew:eD A.wy e0.1 n 0=A.wy.map (λ e=>if e.1=e0.1 then (e.1,e.2.1,e.2.2++[n]) else e):=by unfold eD;rw[FX hk]
 have O:∀ e:(Int×Int)×Addr×List Nm3,(if e.1=e0.1 then (e.1,e.2.1,e.2.2++[n]) else e).2.1=e.2.1/\(if e.1=e0.1 then (e.1,e.2.1,e.2.2++[n]) else e).1=e.1:=λ e=>by
  by_cases z:e.1=e0.1
  ·rw[ZJC];exact Z05
  ·rw[ZJD];exact Z05
 have eo:L.own { A with wy:=ZGz}=L.own A:=by
  unfold DiL.own
  rw[ew,GJ]
  congr 1
  exact GD λ e _=>(O e).1
 refine⟨J _ _ (λ z=>(Z e0 q).1 z.symm) (by unfold DiL.own;simp) d.po,J _ _ (λ z=>(Z e0 q).2.1 z.symm) (by unfold DiL.own;simp) d.ta,?_,λ e hm=>?_,d.lets,hG,by rw[eo];exact d.nd,by rw[eo];exact d.gn⟩
 ·show H' L.wy=some (.dT ((eD A.wy e0.1 n 0).map λ e=>(Z3l,Z1h)))
  rw[ew,GJ,J _ _ (λ z=>(Z e0 q).2.2 z.symm) (by unfold DiL.own;simp) d.wy]
  congr 2
  exact GD λ e _=>by show _=(wk _,V.ref _);rw[(O e).1,(O e).2]
 ·have W:e∈eD A.wy e0.1 n 0:=hm
  rcases iE W with ⟨U,F,Y,rfl⟩|⟨F,Y⟩|⟨z,_⟩
  ·have:U=e0:=by
    obtain⟨i,hi,rfl⟩:=Gm F
    obtain⟨j,hj,rfl⟩:=Gm q
    have:i=j:=(Ht (l:=A.wy.map (·.1)) (by simpa using hi) wn).mp (by rw[FP,FP,FJ hi,FJ hj];exact congrArg some Y)
    subst this;rfl
   subst this
   show H' U.2.1=some (.dT ((U.2.2++[n]).map λ n=>(Z6L,Z0h)))
   rw[h1,F0];rfl
  ·exact J _ _ (λ z=>Y (by rw[n5 e F e0 q z])) (DiL.gG F) (d.ways e F)
  ·exact absurd hk z
theorem Di.Ar {G H H':Hp}{L:DiL}{A:DiA}{n:Nm3}{q:Addr}{k:Int×Int}(d:Z4E) (nk0:k∉A.wy.map (·.1)) (nq:q∉L.own A) (gq:G q=none) (h1:H' L.wy=some (.dT ((A.wy.map λ e=>(Z3l,Z1h))++[(wk k,V.ref q)]))) (h2:H' q=some (.dT [(Z6L,Z0h)]))
  (kp:∀ b o,b≠L.wy->b∈L.own A->H b=some o->H' b=some o) (hG:ZAC):Di G H' L { A with wy:=ZBO}:=by
 obtain⟨n1,n2,n3,n4,n5⟩:=d.nes
 have ew:eD A.wy k n q=A.wy++[(k,q,[n])]:=by unfold eD;rw[FV nk0]
 have eo:L.own { A with wy:=ZBO}=L.own A++[q]:=by
  unfold DiL.own
  rw[ew,F0,Hu];rfl
 refine⟨kp _ _ n2 (by unfold DiL.own;simp) d.po,kp _ _ n3 (by unfold DiL.own;simp) d.ta,?_,λ e hm=>?_,d.lets,hG,?_,λ b hb=>?_⟩
 ·show H' L.wy=some (.dT ((eD A.wy k n q).map λ e=>(Z3l,Z1h)))
  rw[ew,F0,h1];rfl
 ·have hm':e∈eD A.wy k n q:=hm
  rw[ew] at hm'
  rcases FY.mp hm' with m2|m2
  ·exact kp _ _ (n4 e m2).2.2 (DiL.gG m2) (d.ways e m2)
  ·rw[FL] at m2;subst m2;exact h2
 ·rw[eo]
  refine GP.mpr ⟨d.nd,Ze,λ a ha b hb=>?_⟩
  rw[FL] at hb
  rw[hb];exact λ z=>nq (by rw[<- z];exact ha)
 ·rw[eo] at hb
  rcases FY.mp hb with hb|hb
  ·exact d.gn b hb
  ·rw[FL] at hb;rw[hb];exact gq
theorem kM [DecidableEq α]:∀ {a b:List α},a.Nodup->(∀ x∈a,x∈b)->a.length<=b.length
 | [],_,_,_=>Z8g
 | x::a,b,nd,h=>by
  obtain⟨F,G⟩:=Z9m
  have j:=ZGM
  have:=kM (b:=b.erase x) G λ y q=>(List.mem_erase_of_ne (λ z=>F (by rw[<- z];exact q))).mpr (h y (FW _ q))
  rw[ZB6] at this
  have:=ZC8
  rw[GF];lia
theorem pT [ZBX] (f:α->κ) (g:α->V):∀ {l:List α},eu (l.map λ x=>(f x,g x)) k=some v->∃ x∈l,f x=k/\v=g x
 | [],h=>by cases h
 | x::l,h=>by
  rw[Gq] at h
  by_cases e:f x=k
  ·rw[hJ e] at h
   cases h
   exact⟨x,FZ,e,rfl⟩
  ·rw[gF e] at h
   obtain⟨y,j,z⟩:=pT f g h
   exact⟨y,FW _ j,z⟩
theorem mw:(eD wy k n q).length<=wy.length+1:=by
 unfold eD
 by_cases h:k∈wy.map (·.1)
 ·rw[FX h,FO];lia
 ·rw[ZLz,FQ];simp
theorem n6 {D:DiL}{A:DiA}{n:Nm3}{q adr b:Addr}{k:Int×Int}{po:ZJ4}(h:b∈D.own { A with po:=po,wy:=ZBO}):b∈D.own A\/(k∉A.wy.map (·.1)/\b=q):=by
 rcases DiL.eY h with rfl|rfl|rfl|⟨e,he,rfl⟩
 ·exact .inl (by unfold DiL.own;simp)
 ·exact .inl (by unfold DiL.own;simp)
 ·exact .inl (by unfold DiL.own;simp)
 ·have he':e∈eD A.wy k n q:=he
  rcases iE he' with ⟨e0,m0,_,rfl⟩|⟨m0,_⟩|⟨z,rfl⟩
  ·exact .inl (show e0.2.1∈D.own A from DiL.gG m0)
  ·exact .inl (DiL.gG m0)
  ·exact .inr ⟨z,rfl⟩
theorem j9 (b:Z8j) (n:a∉S) (h:Z94):ZLg:=by
 rcases h with (h|⟨o,h⟩)|h
 ·exact .inl (.inl (b _ _ n h))
 ·exact .inl (.inr ⟨o,b _ _ n h⟩)
 ·exact ZAZ
theorem i3 (b:But S H H1) (h:a∈S\/H a=none):But S H (upd H1 a o):=λ c u n e=>by
 rw[cz]
 ·exact b c u n e
 ·rintro rfl
  rcases h with h|h
  ·exact n h
  ·rw[h] at e;cases e
noncomputable def lets (s pl:Int) (xs:List (Addr×Int×Int)):ZJ4:=xs.mapIdx λ k x=>⟨(s,pl,(k:Int)),x.1,x.2.1,x.2.2⟩
theorem hR:l∈lets s pl xs↔∃ (k:Nat) (x:Addr×Int×Int),xs[k]? = some x/\l=⟨(s,pl,(k:Int)),x.1,x.2.1,x.2.2⟩:=by
 unfold lets
 rw[List.mem_mapIdx]
 constructor
 ·rintro⟨i,h,rfl⟩
  exact⟨i,xs[i],FJ h,rfl⟩
 ·rintro⟨k,x,h,rfl⟩
  obtain⟨j,rfl⟩:=ZFd
  exact⟨k,j,rfl⟩
theorem sN {s pl:Int}{xs:List (Addr×Int×Int)}{i:Nat}{y:Addr×Int×Int}(h:xs[i]? = some y):lets s pl (xs.take (i+1))=lets s pl (ZII)++[⟨(s,pl,(i:Int)),y.1,y.2.1,y.2.2⟩]:=by
 unfold lets
 have j:=Z2D
 rw[GQ,h,Option.toList_some,List.mapIdx_append,Gu,Nat.min_eq_left (Ic j)]
 simp
def y4 (K:W.Frag) (t:Adr):Sp:=λ vs H Q _=>∃ G p dx dz m o lt lg D A l,∃ s pl:Int,∃ xs:List (Addr×Int×Int),∃ m' c,vs=[Zs,.int s,ZD2,Z3G]/\H p=some Z0t/\Di G H D A/\WfD m' c A/\p∉D.own A/\l∉D.own A /\
 SqL K H l (ZHf)/\xs.length<=3/\(∀ x∈xs,G x.1=some Zu/\0<=x.2.1/\x.2.1<m')/\0<=s/\s<m'/\1<=pl/\pl<=c s/\(∀ e∈A.po,e.nm.1=s->e.nm.2.1<pl)/\A.po.length<=900/\A.wy.length<=900 /\
 ∀ H' A',But ZAw H H'->Di G H' D A'->WfD m' c A'->A'.ta=A.ta->A'.po=A.po++lets s pl xs->A'.wy.length<=A.wy.length+xs.length->(∀ b∈D.own A',b∈D.own A\/H b=none)->Q .non H'
theorem yK (T:ZJ):dk P w K mg base ZM 1 t.f_dc t.fd_dc ["self","sender","place","letters"] (y4 K t):=by
 refine T.F_dc.okN n9 Z6 ZB
 ·obtain⟨G,p,dx,dz,m,o,lt,lg,D,A,l,s,pl,xs,m',c,rfl,_⟩:=h;rfl
 ·obtain⟨G,p,dx,dz,m,o,lt,lg,D,A,l,s,pl,xs,m',c,rfl,hp,di,wf,np,nl,hl,few,hx,s0,s1,pl0,pl1,new,f1,f2,k⟩:=h
  refine⟨_,(cE (dI PassesOwn.never rfl (gs (K:=K) rfl T.no_enumerate Z2s) (eJ (K:=K) rfl (dh (cN (i:=4) n9.nd rfl Z5) (dh (cN (i:=5) n9.nd rfl Z5) eM)))
    (cD (cV (i:=6) n9.nd rfl Z5 (eC (cF ZI (cF ZV Z3a))))
   (cD (j6 Z1H Z2 Z5y Z1O rfl)
   (cE (dy (nB (iC Z1H Z5y Z2))
    (cD (cV (i:=7) n9.nd rfl Z5 (dQ (K:=K) IL Jd PySem.F.type_dict_setdefault (kC Z1H) Z2 (cF (eC (cF ZI (cF Z2q cC))) (cF fK cC))))
   (cE (j6 Z1H (pv 7) Z5y fL rfl)))
    da)))))),?_⟩
  refine⟨_,rfl,l,_,rfl,hl,fM (xs:=ZHf)
   (λ i σ H2=>(∃ A2,But ZAw H H2/\Di G H2 D A2/\WfD m' c A2/\A2.ta=A.ta/\A2.po=A.po++lets s pl (ZII)/\A2.wy.length<=A.wy.length+i/\(∀ b∈D.own A2,b∈D.own A\/H b=none))/\∃ a b c d,σ=[Z7S,some (.int s),some ZD2,Z6E,a,b,c,d])
   ⟨⟨A,But.of Z3F,di,wf,rfl,(Gx _).symm,Z9,λ b hb=>ZJU⟩,_,_,_,_,rfl⟩ ?_ ?_ ?_⟩
  ·rintro i σ H2 hi ⟨⟨A2,bt,_⟩,_⟩
   exact j9 bt nl hl
  ·rintro i x pe σ H2 hx' npe ⟨⟨A2,bt,d2,w2,e1,e2,e3,e4⟩,a0,b0,c0,d0,rfl⟩
   obtain⟨y,hy,rfl⟩:∃ y,xs[i]? = some y/\x=.ref y.1:=by
    rw[FP] at hx'
    cases q:xs[i]? with
    | none=>rw[q] at hx';cases hx'
    | some y=>rw[q] at hx';cases hx';exact⟨y,rfl,rfl⟩
   have hi:i<xs.length:=ZEh
   obtain⟨ga,t0,t1⟩:=hx y (FT hy)
   refine⟨pe,_,rfl,ZIu,rfl,_,_,rfl,_,_,rfl,rfl,?_⟩
   refine⟨_,rfl,_,rfl,_,rfl,by show 3<=sizeLine;decide,λ nb hnb=>?_⟩
   let n:Nm3:=(s,pl,(i:Int))
   have s4:cG H2 Z0V:=(cG.new npe).trans (cG.new hnb)
   have hb4:upd (upd H2 pe (.tup [Z08,.ref y.1])) nb (.tup [.int s,ZD2,Z08]) nb=some ZEj:=cy
   have bt4:But ZAw H Z0V:=λ b u nn e=>s4 _ _ (bt b u nn e)
   have d4:Di G Z0V D A2:=d2.frame (λ b u _ e=>ZGC) (λ b u e=>s4 _ _ (d2.held _ _ e))
   generalize upd (upd H2 pe (.tup [.int i,.ref y.1])) nb (.tup [.int s,.int pl,.int i])=H4 at hb4 bt4 d4 ⊢
   have hn:n∉A2.po.map (·.nm):=λ z=>by
    obtain⟨e,he,ez⟩:=ZCy
    rw[e2] at he
    rcases FY.mp he with he|he
    ·have:=new e he (by rw[ez])
     rw[ez] at this;exact absurd this (Int.lt_irrefl _)
    ·obtain⟨k',x',hx',rfl⟩:=hR.mp he
     have:=(FK.mp hx').1
     rw[Gu] at this
     have ek:(k':Int)=i:=congrArg (λ n:Nm3=>n.2.2) ez
     omega
   have len2:A2.po.length<=A.po.length+i:=by rw[e2,FQ];unfold lets;rw[Jk,Gu];omega
   have v1:eu (A2.po.map λ l=>(Z0i,Z0P)) (Z6L)=none:=gL (λ l:fk=>Z0i) ZAc λ e he z=>hn (by rw[<- eZ _ _ z];exact ZJI)
   refine⟨_,rfl,_,rfl,p,_,dx,_,_,rfl,bt4 _ _ np hp,T.cl_Loom,T.na_co,rfl,_,rfl,D.po,_,rfl,.inr ⟨_,Z6L,nb,d4.po,rfl,hb4,dc (by rw[FO];omega),rfl⟩,?_⟩
   rw[gX _ v1]
   have nbo:∀ b,b∈D.own A2->nb≠b:=λ b hb z=>by
    obtain⟨kvs,q⟩:=d4.isd hb
    rw[<- z,hb4] at q;cases q
   obtain⟨m1,m2,m3,m4,m5⟩:=d4.nes
   have poI:D.po∈D.own A2:=by unfold DiL.own;simp
   have wyI:D.wy∈D.own A2:=by unfold DiL.own;simp
   have d5:=d4.Ca (x:=Z5T) (H':=upd H4 D.po (.dT ((A2.po.map λ l=>(Z0i,Z0P))++[(Z6L,ZIs)]))) ga cy (λ b u nn _ e=>by rw[cz nn];exact e) (λ b u e=>by rw[cz (cB e (d4.gn _ poI))];exact d4.held _ _ e)
   have hb5:upd H4 D.po (.dT ((A2.po.map λ l=>(Z0i,Z0P))++[(Z6L,ZIs)])) nb=some ZEj:=by rw[cz (nbo _ poI)];exact hb4
   have bt5:But ZAw H (upd H4 D.po (.dT ((A2.po.map λ l=>(Z0i,Z0P))++[(Z6L,ZIs)]))):=i3 bt4 (e4 _ poI)
   generalize upd H4 D.po (.dT ((A2.po.map λ l=>(nk l.nm,V.ref l.adr))++[(nk n,V.ref y.1)]))=H5 at d5 hb5 bt5 ⊢
   have r:0<=n.1/\n.1<m'/\1<=n.2.1/\n.2.1<=c n.1/\0<=n.2.2/\n.2.2<3/\0<=y.2.1/\y.2.1<m':=⟨s0,s1,pl0,pl1,Int.natCast_nonneg i,by show (i:Int)<3;omega,t0,t1⟩
   have e2':A2.po++[(⟨n,y.1,y.2.1,y.2.2⟩:fk)]=A.po++lets s pl (xs.take (i+1)):=by rw[sN hy,e2,Hu]
   refine⟨_,rfl,_,rfl,p,_,dx,_,_,rfl,ZLa,T.cl_Loom,T.na_da,rfl,D.ta,_,rfl,.inr ⟨_,Z6L,nb,.inl d5.ta,rfl,hb5,rfl⟩,_,rfl,?_⟩
   by_cases nin:n∈A2.ta.map (·.1)
   ·obtain⟨e0,he0,ee⟩:=F2.mp nin
    have ev:eu (A2.ta.map λ e=>(Z1J,Z0Y)) (Z6L)=some (.int e0.2):=by
     rw[<- ee];exact eS (λ e:Nm3×Int=>Z1J) Z4_ (fH (f:=λ e:Nm3×Int=>e.1) eZ w2.nt) he0
    refine eA (by rw[ev];rfl) ?_
    refine⟨⟨_,bt5,d5,w2.Bd (x:=Z5T) hn nin r,e1,e2',by show A2.wy.length<=_;omega,e4⟩,_,_,_,_,rfl⟩
   have nta:eu (A2.ta.map λ e=>(Z1J,Z0Y)) (Z6L)=none:=gL (λ e:Nm3×Int=>Z1J) Z4_ λ e he z=>nin (by rw[<- eZ _ _ z];exact ZJI)
   refine gE (by rw[nta];rfl) ?_
   refine⟨_,rfl,p,_,dx,_,_,rfl,ZLa,T.cl_Loom,T.na_dl,rfl,.inr (.inr (.inl ⟨rfl,.inr ⟨_,d5.wy⟩⟩)),_,rfl,_,rfl,y.1,_,0,.int y.2.1,rfl,rfl,SqT.of (d5.held _ _ ga),dR,by show 2<=sizeLine;decide,λ kb hkb q hq=>?_⟩
   have s7:cG H5 ZAe:=Z9I
   have hq5:H5 q=none:=ZF5
   have hk7:upd Z0S q Z2W kb=some (.tup ((wk (s,y.2.1)).map kV)):=by rw[ZLW,cy];rfl
   have hb7:=s7 _ _ hb5
   have bt7:But ZAw H ZAe:=λ b u nn e=>s7 _ _ (bt5 b u nn e)
   have d7:Di G ZAe D { A2 with po:=A2.po++[Z5T] }:=d5.frame (λ b u _ e=>ZLB) (λ b u e=>s7 _ _ ZLV)
   have qq:upd Z0S q Z2W q=some (Z2W):=cy
   have hqo:q∉D.own A2:=λ z=>by
    obtain⟨kvs,e⟩:=d5.isd z
    rw[hq5] at e;cases e
   have hqH:H q=none\/q∈D.own A:=by
    cases e:H q with
    | none=>exact Z0N
    | some u=>
     by_cases z:q∈D.own A
     ·exact ZEQ
     ·rw[bt5 _ _ z e] at hq5;cases hq5
   generalize upd (upd H5 kb (.tup [.int s,.int y.2.1])) q (.dT [])=H7 at hk7 hb7 bt7 d7 qq ⊢
   refine⟨D.wy,kb,_,wk (s,y.2.1),Z2P,rfl,rfl,d7.wy,hk7,dc (by rw[FO];show A2.wy.length<=1000;omega),λ v hv=>?_,λ hv=>?_⟩
   ·obtain⟨e0,he0,k0,rfl⟩:=pT (λ e:(Int×Int)×Addr×List Nm3=>Z3l) ZFn hv
    have k0:=jF _ _ k0
    have he0:e0∈A2.wy:=he0
    have kin:(s,y.2.1)∈A2.wy.map (·.1):=by rw[<- k0];exact F4 he0
    have v2:eu (e0.2.2.map λ n=>(Z6L,Z0h)) (Z6L)=none:=gL nk ZFo λ z hz e=>by
     obtain⟨l,hl,q1,_⟩:=ZD_
     exact hn (by rw[<- eZ _ _ e,<- q1];exact F4 hl)
    have way:=d7.ways e0 he0
    have lenw:e0.2.2.length<=A2.po.length:=by
     have:=kM (b:=A2.po.map (·.nm)) (w2.wd e0 he0) λ z hz=>by
      obtain⟨l,hl,q1,_⟩:=ZD_
      rw[<- q1];exact F4 hl
     rwa [FO] at this
    refine⟨_,rfl,_,rfl,e0.2.1,_,rfl,.inr ⟨_,Z6L,nb,way,rfl,hb7,dc (by rw[FO];omega),rfl⟩,?_⟩
    rw[gX _ v2]
    have own0:e0.2.1∈D.own A2:=DiL.gG he0
    have d9:=d7.Ah (n:=n) (e0:=e0) (H':=upd H7 e0.2.1 (.dT ((e0.2.2.map λ n=>(Z6L,Z0h))++[(Z6L,Z0h)]))) w2.wn he0 cy (λ b u nn _ e=>by rw[cz nn];exact e) (λ b u e=>by rw[cz (cB e (d7.gn _ own0))];exact ZLU)
    rw[k0] at d9
    refine⟨⟨A2.lZ n y.1 y.2.1 y.2.2 0,i3 bt7 (e4 _ own0),d9,ZK1,e1,e2',?_,λ b hb=>?_⟩,_,_,_,_,rfl⟩
    ·have:=mw (wy:=A2.wy) (k:=(s,y.2.1)) (n:=n) (q:=0)
     show (eD A2.wy (s,y.2.1) n 0).length<=_
     omega
    ·rcases n6 (adr:=y.1) hb with hb|⟨z,_⟩
     ·exact e4 b hb
     ·exact absurd kin z
   ·have nin':(s,y.2.1)∉A2.wy.map (·.1):=λ z=>by
     obtain⟨e,he,q1⟩:=ZCy
     refine uN hv ?_
     rw[GJ]
     exact F2.mpr ⟨e,he,by show wk e.1=_;rw[q1]⟩
    have qwy:q≠D.wy:=λ z=>hqo (by rw[z];exact wyI)
    have nbwy:nb≠D.wy:=nbo _ wyI
    have nbq:nb≠q:=λ z=>by rw[z] at hb5;rw[hq5] at hb5;cases hb5
    refine⟨_,rfl,_,rfl,q,_,rfl,.inr ⟨[],Z6L,nb,by rw[cz qwy];exact qq,rfl,by rw[cz nbwy];exact hb7,Z4,rfl⟩,?_⟩
    rw[gX _ ue,Jg]
    have gq:G q=none:=by
     cases e:G q with
     | none=>rfl
     | some u=>rw[ZLV] at hq5;cases hq5
    have d9:=d7.Ar (n:=n) (q:=q) (k:=(s,y.2.1)) (H':=upd (upd H7 D.wy (.dT ((A2.wy.map λ e=>(Z3l,Z1h))++[(wk (s,y.2.1),V.ref q)]))) q (.dT [(Z6L,Z0h)])) nin' hqo gq (by rw[cz (Ne.symm qwy),cy]) cy (λ b u nn ho e=>by rw[cz (λ z=>hqo (by rw[<- z];exact ho)),cz nn];exact e) (λ b u e=>by rw[cz (cB e gq),cz (cB e (d7.gn _ wyI))];exact ZLU)
    refine⟨⟨A2.lZ n y.1 y.2.1 y.2.2 q,i3 (i3 bt7 (e4 _ wyI)) hqH.symm,d9,ZK1,e1,e2',?_,λ b hb=>?_⟩,_,_,_,_,rfl⟩
    ·have:=mw (wy:=A2.wy) (k:=(s,y.2.1)) (n:=n) (q:=q)
     show (eD A2.wy (s,y.2.1) n q).length<=_
     omega
    ·rcases n6 (adr:=y.1) hb with hb|⟨_,rfl⟩
     ·exact e4 b hb
     ·exact hqH.symm
  ·rintro σ H2 ⟨⟨A2,bt,d2,w2,e1,e2,e3,e4⟩,_⟩
   rw[FO] at e2 e3
   rw[Ho] at e2
   exact k H2 A2 bt d2 w2 e1 e2 e3 e4
theorem tR:∃ j,mN Z1Z lo hi=iV j/\j.length<=ns.length:=by
 refine⟨(ns.drop (HT.sIx (ZIX).length 0 lo)).take (HT.sIx (ZIX).length (ZIX).length hi-HT.sIx (ZIX).length 0 lo),?_,?_⟩
 ·unfold mN iV
  rw[List.map_take,List.map_drop]
 ·rw[Gu,List.length_drop];lia
def Bo (K:W.Frag):List V->Sp:=λ ws vs H Q _=>∃ a b m c mn:Int,∃ h st v,ws=[.int mn,ZAY,.int a,.int b,Z1M]/\vs=[Z5x,ZJQ,v]/\(v=.non\/∃ wd,v=.int wd)/\2<=mn/\mn<=10/\0<=h/\h<mn/\0<m/\(-(2 ^ 64)<a/\a<2 ^ 64)/\(-(2 ^ 64)<b/\b<2 ^ 64) /\
 ∀ (H':Hp) (r:Addr) (st':Int) (l1 l2:Addr) (ls:List (Addr×Int×Int)) (zs:List Int),cG H H'->H' r=some (.tup [.int st',.ref l1,.ref l2])->H' l1=some (.lst (ls.map λ x:Addr×Int×Int=>Z3q))->ls.length<=2->(∀ x∈ls,H' x.1=some Zu/\0<=x.2.1/\x.2.1<mn)->H' l2=some (.lst (iV zs))->zs.length<=10->Q ZEK H'
theorem Bu (T:ZJ):kJ P w K mg base ZM 2 "_law_does" "_law_program.<locals>._law_does" qz ["_law_hand","_law_state","_law_word"] ["_law_many","_law_cell","_law_a","_law_b","_law_m"] (Bo K):=by
 refine zQ iL (λ ws vs H Q E h=>?_) (λ cl doc pm ctv c us hl=>match us,hl with | [_,_,_],_=>rfl) (λ f cdv cl A outer s H ws vs Q E hr wl h=>?_)
 ·obtain⟨a,b,m,c,mn,h,st,v,_,rfl,_⟩:=h;rfl
 ·obtain⟨a,b,m,c,mn,h,st,v,rfl,rfl,hv,m0,m1,h0,h1,mp,ba,bb,k⟩:=h
  refine⟨_,(cD (cV (i:=3) iL.nd rfl Z5 ZV)
   (cD (dy (cZ zY ZV iU Z0Z)
    (cE (cV (i:=3) iL.nd rfl Z5 cJ))
    da)
   (cD (cV (i:=4) iL.nd rfl Z1R (cS eg (cS dM (cS dM (cS dM (cS gW (pv 9) ZI) (cS gW ZJa Z1E)) ZX) cJ) (pv 11)))
   (cD (cV (i:=5) iL.nd rfl Z1R Z1F)
   (cD (dy (cZ hU (cS iR ZCL cJ) cJ Z0Z)
    (cD (cV (i:=5) iL.nd rfl Z1R (cU Z8C Z0 rfl T.mg_ct T.kp_ct T.b_ct .nil cH (cF ZCL (cF (cS dM cJ (cS eg (cS dM (cS gW ZI (pv 7)) ZX) cJ)) cC))))
   (cE (cV (i:=4) iL.nd rfl Z1R (cS dM (cS dM ZI cJ) (cS eg Z1E cJ)))))
    da)
   (cD (fF ["_law_hand","_law_state","_law_word","_law_heard","_law_new","_law_digit","_law_letters","_law_many","_law_cell","_law_a","_law_b","_law_m","_law_k"] 1 (i:=6) rfl iL.nd rfl Z5 (dF rfl T.no_range (cF (cS eg Z1O cJ) cC)) (λ _ _ _ _ _=>⟨(cN (i:=12) (show List.Nodup (["_law_hand","_law_state","_law_word","_law_heard","_law_new","_law_digit","_law_letters","_law_many","_law_cell","_law_a","_law_b","_law_m","_law_k"]:ZT) from by decide +kernel) rfl Z5),dG,(eC (cF (cS eg (cS dM ZKt (pv 12)) (pv 7)) (cF (cS dM (cS dM Z1F Z1O) (pv 12)) cC)))⟩))
   (cE (cQ (eC (cF Z1F (cF Z5y (cF (nN (oj (K:=K)) (dS (cF Z1F Z4c)) qK (qR (cS eg ZKt cJ))) cC)))))))))))),?_⟩
  refine sq λ r1 e1=>?_
  refine Z3b
  refine(sn e1 λ r2 e2=>?_:r1 _ _ _)
  have main:∀ hd:Int,r2 { nx:=λ x H'=>Z8d,rt:=Q } [ZGB,Z75,ZGA,ZBJ,none,none,none,ZBI,Z5X,Z5Z,Z5Y,Z9f] H:=λ hd=>by
   refine(sn e2 λ r3 e3=>?_:r2 _ _ _)
   refine⟨_,rfl,_,rfl,_,_,rfl,rfl,.inl ba,_,rfl,_,rfl,_,_,rfl,rfl,.inl bb,_,_,rfl,rfl,_,rfl,_,_,rfl,rfl,_,_,rfl,rfl,_,rfl,_,_,rfl,rfl,mp,?_⟩
   refine(sn e3 λ r4 e4=>?_:r3 _ _ _)
   refine Z3b
   refine(sn e4 λ r5 e5=>?_:r4 _ _ _)
   have fin:∀ nw dg:Int,r5 { nx:=λ x H'=>Z8d,rt:=Q } [ZGB,Z75,ZGA,ZBJ,ZK6,ZK7,none,ZBI,Z5X,Z5Z,Z5Y,Z9f] H:=λ nw dg=>by
    refine(sn e5 λ r6 e6=>?_:r5 _ _ _)
    have b0:=He dg (b:=3) Z4
    have b1:=GR dg (b:=3) Z4
    refine⟨_,rfl,_,_,rfl,rfl,by show (0:Int)<3;decide,dg%3,rfl,ZC,ZC,eO ZC λ acc hacc=>⟨λ i σ2 ys H2=>∃ ls:List (Addr×Int×Int),ls.length=i/\ys=ls.map (λ x=>Z3q)/\H2 acc=some Zb/\(∀ x∈ls,H2 x.1=some Zu/\0<=x.2.1/\x.2.1<mn)/\cG H H2/\∃ o,σ2=[ZGB,Z75,ZGA,ZBJ,ZK6,ZK7,none,ZBI,Z5X,Z5Z,Z5Y,Z9f,o],⟨[],rfl,rfl,cy,(λ x hx=>by cases hx),cG.new hacc,_,rfl⟩,?_,?_,?_⟩⟩
    ·rintro i σ2 ys H2 hi ⟨ls,len,rfl,_⟩
     rw[FO];omega
    ·rintro i σ2 ys H2 hi ⟨ls,len,rfl,e2,hls,sm,o,rfl⟩
     dsimp only[eh,gy]
     refine fC ⟨_,rfl,_,_,rfl,rfl,Z1U,_,rfl,_,_,rfl,rfl,_,rfl,_,_,rfl,rfl,ZC,_,rfl,_,rfl,_,_,rfl,rfl,_,rfl,_,_,rfl,rfl,by show 2<=sizeLine;decide,λ q hq=>?_⟩
     have nq:q≠acc:=λ z=>by rw[z,e2] at hq;cases hq
     refine⟨by rw[cz (Ne.symm nq)];exact e2,Nx.mk hi ⟨ls++[(q,(dg/3+(0+(i:Int)))%mn,nw+dg+(0+(i:Int)))],by rw[FQ,len];rfl,by rw[F0];rfl,cy,λ x hx=>?_,λ b u e=>?_,_,rfl⟩⟩
     ·rcases FY.mp hx with hx|hx
      ·obtain⟨z1,z2⟩:=Z9h
       refine⟨?_,z2⟩
       rw[cz (λ z=>by rw[z,e2] at z1;cases z1),cz (cB z1 hq)];exact z1
      ·rw[FL] at hx
       subst hx
       exact⟨by rw[cz nq,cy],He _ ZC,GR _ ZC⟩
     ·rw[ZBR,cz (cB (sm _ _ e) hq)];exact sm _ _ e
    rintro σ2 ys H2 ⟨ls,len,rfl,e2,hls,sm,o,rfl⟩
    subst e6
    refine⟨_,rfl,_,rfl,_,rfl,_,rfl,by show 2<=sizeLine;decide,λ l5 hl5=>?_⟩
    refine⟨_,rfl,_,_,rfl,rfl,Z1U,_,_,rfl,rfl,by show (0:Int)<3;decide,_,rfl,l5,_,rfl,Z83,λ l6 hl6=>⟨by show 3<=sizeLine;decide,λ r hr=>?_⟩⟩
    obtain⟨zs,ew,lw⟩:=tR (ns:=[nw,dg]) (lo:=none) (hi:=some (dg/9%3))
    have s5:cG H2 Z6n:=cG.new hl5
    have s6:cG H2 (upd Z6n l6 (.lst (mN [V.int nw,V.int dg] none (some (dg/9%3))))):=s5.trans (cG.new hl6)
    have s7:=s6.trans (cG.new (o:=.tup [V.int nw,Zt,.ref l6]) hr)
    refine k _ r _ acc l6 ls zs (sm.trans s7) cy (s7 _ _ e2) ZC (λ x hx=>⟨s7 _ _ (Z9h).1,(Z9h).2⟩) ?_ (Gd lw (by show 2<=10;decide))
    rw[cz (cB cy hr),cy,<- ew];rfl
   refine⟨_,rfl,_,_,rfl,rfl,rfl,_,rfl,fY Z2t λ z=>fin _ _⟩
   have b0:=He (st*mn+h) (b:=60) Z4
   have b1:=GR (st*mn+h) (b:=60) Z4
   refine⟨_,rfl,_,rfl,_,rfl,_,_,rfl,rfl,.inr ZFG,_,rfl,_,_,rfl,rfl,_,_,rfl,rfl,by show (0:Int)<60;decide,_,_,rfl,rfl,c,_,rfl,ZC,ZC,λ dg=>?_⟩
   exact⟨_,rfl,_,_,rfl,rfl,_,rfl,_,_,rfl,rfl,by show (0:Int)<2;decide,_,_,rfl,rfl,fin _ _⟩
  rcases hv with rfl|⟨wd,rfl⟩
  ·exact⟨_,rfl,rfl,_,rfl,gE rfl (main 0)⟩
  ·exact⟨_,rfl,rfl,_,rfl,eA rfl (main wd)⟩
theorem WfD.mono (w:ZDy) (h:∀ x,c x<=c' x):WfD m c' A:=
 ⟨w.nd,w.nt,λ l j=>let ⟨q,F,G,J,L⟩:=w.rg l j;⟨q,F,G,HU J (h _),L⟩,w.wn,w.wi,w.wd,w.wa,w.t1⟩
noncomputable def iJ (wy:List ((Int×Int)×Addr×List Nm3)) (k:Int×Int) (n:Nm3):List ((Int×Int)×Addr×List Nm3):=wy.map λ e=>if e.1=k then (e.1,e.2.1,e.2.2.filter λ x=>decide (x≠n)) else e
theorem gC (k:Int×Int) (n:Nm3) (e:(Int×Int)×Addr×List Nm3):(if e.1=k then (e.1,e.2.1,e.2.2.filter λ x=>decide (x≠n)) else e).1=e.1/\(if e.1=k then (e.1,e.2.1,e.2.2.filter λ x=>decide (x≠n)) else e).2.1=e.2.1:=by
 by_cases z:e.1=k
 ·rw[ZJC];exact Z05
 ·rw[ZJD];exact Z05
theorem p7:(iJ wy k n).map (·.1)=wy.map (·.1):=by
 unfold iJ
 rw[GJ]
 exact GD λ e _=>(gC k n e).1
theorem fW {A:DiA}(G:(A.po.map (·.nm)).Nodup) {l q:fk}(h:l∈A.po) (h':q∈A.po) (e:l.nm=q.nm):l=q:=by
 obtain⟨i,hi,rfl⟩:=Gm h
 obtain⟨j,F,rfl⟩:=Gm h'
 have:i=j:=(Ht (l:=A.po.map (·.nm)) (by simpa using hi) G).mp (by rw[FP,FP,FJ hi,FJ F];exact Z36)
 subst this;rfl
noncomputable def DiA.take (A:DiA) (l:fk) (pl:Int):DiA:={ A with ta:=A.ta++[(l.nm,pl)],wy:=iJ A.wy (l.nm.1,l.to) l.nm }
theorem WfD.take {m:Int}{c:Int->Int}{A:DiA}(w:ZDy) {l:fk}{pl:Int}(hl:l∈A.po) (nt:l.nm∉A.ta.map (·.1)) (Z:1<=pl):WfD m c Z8I:=by
 have V:∀ n,n∈(A.ta++[(l.nm,pl)]).map (·.1)↔n∈A.ta.map (·.1)\/n=l.nm:=λ n=>by rw[F0,FY];simp
 refine⟨w.nd,?_,w.rg,by show ((iJ A.wy _ _).map (·.1)).Nodup;rw[p7];exact w.wn,λ e J n=>?_,λ e J=>?_,λ G Y a1=>?_,λ e J=>?_⟩
 ·show ((A.ta++[(l.nm,pl)]).map (·.1)).Nodup
  rw[F0]
  refine GP.mpr ⟨w.nt,Ze,λ a ha b hb z=>?_⟩
  have W:b=l.nm:=by simpa using hb
  exact nt (by rw[<- W,<- z];exact ha)
 ·obtain⟨j,F,rfl⟩:=F2.mp (show e∈A.wy.map _ from J)
  rw[(gC _ _ j).1]
  show _↔∃ G∈A.po,G.nm=n/\n.1=j.1.1/\G.to=j.1.2/\n∉(A.ta++[(l.nm,pl)]).map (·.1)
  have base:=w.wi j F n
  by_cases z:j.1=(l.nm.1,l.to)
  ·rw[ZJC]
   show n∈j.2.2.filter _↔_
   rw[GG,base]
   constructor
   ·rintro⟨⟨G,h1,h2,L,O,U⟩,h6⟩
    exact⟨G,h1,h2,L,O,λ q=>((V n).mp q).elim U (by simpa using h6)⟩
   ·rintro⟨G,h1,h2,L,O,U⟩
    exact⟨Z5A,by rw[HR];exact λ q=>U ((V n).mpr (.inr q))⟩
  ·rw[ZJD,base]
   constructor
   ·rintro⟨G,h1,h2,L,O,U⟩
    refine⟨G,h1,h2,L,O,λ q=>((V n).mp q).elim U λ y=>z ?_⟩
    have:G=l:=fW w.nd h1 hl (h2.trans y)
    subst this
    subst y
    exact Prod.ext L.symm O.symm
   ·rintro⟨G,h1,h2,L,O,U⟩
    exact Z5A
 ·obtain⟨j,F,rfl⟩:=F2.mp (show e∈A.wy.map _ from J)
  by_cases z:j.1=(l.nm.1,l.to)
  ·rw[ZJC];exact(w.wd j F).filter _
  ·rw[ZJD];exact w.wd j F
 ·obtain⟨j,F,z⟩:=w.wa G Y λ q=>a1 ((V _).mpr ZJT)
  exact⟨_,F2.mpr ⟨j,F,rfl⟩,by rw[(gC _ _ j).1];exact z⟩
 ·rcases FY.mp J with J|J
  ·exact w.t1 e J
  ·rw[FL] at J
   subst J;exact Z
theorem Di.take {G H H':Hp}{L:DiL}{A:DiA}{l:fk}{pl:Int}{e0:(Int×Int)×Addr×List Nm3}(d:Z4E) (wn:(A.wy.map (·.1)).Nodup) (J:e0∈A.wy) (k0:e0.1=(l.nm.1,l.to))
  (h1:H' L.ta=some (.dT ((A.ta.map λ e=>(Z1J,Z0Y))++[(Z0i,V.int pl)]))) (h2:H' e0.2.1=some (.dT ((e0.2.2.filter λ x=>decide (x≠l.nm)).map λ n=>(Z6L,Z0h))))
  (U:∀ b o,b≠L.ta->b≠e0.2.1->b∈L.own A->H b=some o->H' b=some o) (Y:ZAC):Di G H' L Z8I/\L.own Z8I=L.own A:=by
 obtain⟨n1,n2,n3,W,n5⟩:=d.nes
 have O:L.own Z8I=L.own A:=by
  show [L.po,L.ta,L.wy]++(iJ A.wy (l.nm.1,l.to) l.nm).map (·.2.1)=[L.po,L.ta,L.wy]++A.wy.map (·.2.1)
  unfold iJ
  rw[GJ]
  congr 1
  exact GD λ e _=>(ZLQ).2
 refine⟨⟨U _ _ n1 (λ z=>(W e0 J).1 z.symm) (by unfold DiL.own;simp) d.po,?_,?_,λ e hm=>?_,d.lets,Y,by rw[O];exact d.nd,by rw[O];exact d.gn⟩,O⟩
 ·show H' L.ta=some (.dT ((A.ta++[(l.nm,pl)]).map λ e=>(Z1J,Z0Y)))
  rw[h1,F0];rfl
 ·show H' L.wy=some (.dT ((iJ A.wy (l.nm.1,l.to) l.nm).map λ e=>(Z3l,Z1h)))
  unfold iJ
  rw[GJ,U _ _ (Ne.symm n3) (λ z=>(W e0 J).2.2 z.symm) (by unfold DiL.own;simp) d.wy]
  congr 2
  exact GD λ e _=>by show _=(wk _,V.ref _);rw[(ZLQ).1,(ZLQ).2]
 ·obtain⟨q,F,rfl⟩:=F2.mp (show e∈A.wy.map _ from hm)
  by_cases z:q.1=(l.nm.1,l.to)
  ·have:q=e0:=by
    obtain⟨i,hi,rfl⟩:=Gm F
    obtain⟨j,Z,rfl⟩:=Gm J
    have:i=j:=(Ht (l:=A.wy.map (·.1)) (by simpa using hi) wn).mp (by rw[FP,FP,FJ hi,FJ Z];exact congrArg some (z.trans k0.symm))
    subst this;rfl
   subst this
   rw[ZJC];exact h2
  ·rw[ZJD]
   exact U _ _ (W q F).2.1 (λ y=>z (by rw[n5 q F e0 J y];exact k0)) (DiL.gG F) (d.ways q F)
theorem qi {ns:Z1L}{n:Nm3}:mC (ns.map λ n=>(Z6L,Z0h)) (Z6L)=(ns.filter λ x=>decide (x≠n)).map λ n=>(Z6L,Z0h):=by
 unfold mC
 rw[List.filter_map]
 congr 1
 refine List.filter_congr λ x _=>?_
 show decide (nk x≠nk n)=decide (x≠n)
 rw[HW]
 exact⟨λ h e=>h (by rw[e]),λ h e=>h (eZ _ _ e)⟩
structure LoL where
 (p dx dz lt lg:Addr)
 D:DiL
 ths:List ThL
structure LoA where
 many:Nat
 ord:Bool
 fr:Z04
 ths:Z3d
 A:DiA
 b:Int->Int
noncomputable def cnt (ths:Z3d) (h:Int):Int:=match ths[h.toNat]? with
 | some T=>T.evs.length
 | none=>0
noncomputable def ThL.ad (q:ThL):Zq:=[q.p,q.dn,q.wr]
noncomputable def LoL.own (L:LoL) (A:LoA):Zq:=[L.p,L.lt,L.lg]++(L.ths.flatMap ThL.ad++L.D.own A.A)
structure TWf (n:Nat) (T:ThA):Prop where
 ne:T.ws≠[]
 so:T.ws.Pairwise (· < ·)
 rg:∀ z∈T.ws,0<=z/\z<=T.evs.length
 dn:T.down<=T.evs.length
 d0:0<=T.down
 en:T.evs.length<=n
 wn:T.ws.length<=n+1
def XsO (H:Hp) (xs:Z04):Prop:=xs=[]\/∃ b n,xs=[Zj]/\H b=some Z3K
theorem XsO.keep (h:XsO H xs) (k:∀ b xs,H b=some ZU->H' b=some ZU):XsO H' xs:=h.imp id λ⟨b,n,e,z⟩=>⟨b,n,e,k _ _ z⟩
def oK (m:Nat) (H:Hp) (x:V):Prop:=∃ e r pl s,∃ h:Nat,∃ xs,x=.ref e/\H e=some ZI7/\H r=some (.tup (.str s :: .int h::xs))/\h<m/\PyData.strOk s=true/\XsO H xs
theorem oK.keep (h:ZLH) (k:∀ b xs,H b=some ZU->H' b=some ZU):oK m H' x:=by
 obtain⟨e,r,G,s,i,xs,ex,j,F,q,J,L⟩:=h
 exact⟨e,r,G,s,i,xs,ex,k _ _ j,k _ _ F,q,J,L.keep k⟩
structure LoC (K:W.Frag) (t:Adr) (G H:Hp) (L:LoL) (A:LoA):Prop where
 self:H L.p=some (.ins t.c_Loom L.dx Z0F)
 tl:H L.lt=some (.lst Z03)
 th:∀ (i:Nat) q T,L.ths[i]? = some q->A.ths[i]? = some T->Th K t G H q T
 len1:L.ths.length=A.many
 len2:A.ths.length=A.many
 log:∃ xs,H L.lg=some ZQ
 di:Di G H L.D A.A
 clo:Clo G "_law_does" "_law_program.<locals>._law_does" qz ["_law_many","_law_cell","_law_a","_law_b","_law_m"] L.dz A.fr
 held:ZGO
 gn:∀ b∈L.own A,G b=none
 td:∀ (i j:Nat) q r,L.ths[i]? = some q->L.ths[j]? = some r->i≠j->∀ x∈q.ad,x∉r.ad
 tb:∀ (i:Nat) q,L.ths[i]? = some q->∀ x∈q.ad,x∉[L.p,L.lt,L.lg]
 ll:L.lt≠L.lg
def Big:HO->Prop
 | .ins _ _ _=>True
 | .lst _=>True
 | .dT _=>True
 | _=>False
section
variable {G H G' H':Hp}{L:LoL}{A:LoA}
theorem LoC.zK (c:Z02) {i:Nat}{q:ThL}(h:L.ths[i]? = some q):∃ T,A.ths[i]? = some T/\Th K t G H q T:=by
 have hi:=Z2D
 have e:=FJ (l:=A.ths) (i:=i) (by rw[c.len2,<- c.len1];exact hi)
 exact⟨_,e,c.th i q _ h e⟩
theorem Th.kind (h:Th K t G H q T) (j:b∈q.ad):(∃ C dx fs,H b=some Z0A)\/∃ xs,H b=some ZQ:=by
 unfold ThL.ad at j
 simp only[FR,FU,Ga] at j
 obtain⟨es,F,_⟩:=h.done
 rcases j with rfl|rfl|rfl
 ·exact .inl ⟨_,_,_,h.self⟩
 ·exact .inr ⟨_,F⟩
 ·exact .inr ⟨_,h.fR⟩
theorem LoL.eY (h:b∈L.own A):b∈[L.p,L.lt,L.lg]\/(∃ (i:Nat) (q:ThL),L.ths[i]? = some q/\b∈q.ad)\/b∈L.D.own A.A:=by
 rcases FY.mp h with h|h
 ·exact Z5z
 ·rcases FY.mp h with h|h
  ·obtain⟨q,j,z⟩:=Jz.mp h
   obtain⟨i,hi⟩:=HA j
   exact .inr (.inl ⟨i,q,hi,z⟩)
  ·exact .inr ZAZ
theorem LoL.gj (h:b∈[L.p,L.lt,L.lg]):b∈L.own A:=Gy _ h
theorem LoL.gD {b:Addr}{i:Nat}{q:ThL}(h:L.ths[i]? = some q) (j:b∈q.ad):b∈L.own A:=Gf _ (Gy _ (Jz.mpr ⟨q,FT h,j⟩))
theorem LoL.i5 (h:b∈L.D.own A.A):b∈L.own A:=Gf _ (Gf _ h)
theorem LoC.y7 (c:Z02) (h:b∈[L.p,L.lt,L.lg]):(∃ C dx fs,H b=some Z0A)\/∃ xs,H b=some ZQ:=by
 simp only[FR,FU,Ga] at h
 obtain⟨es,j⟩:=c.log
 rcases h with rfl|rfl|rfl
 ·exact .inl ⟨_,_,_,c.self⟩
 ·exact .inr ⟨_,c.tl⟩
 ·exact .inr ⟨_,j⟩
theorem LoC.big (c:Z02) {b:Addr}(h:b∈L.own A):∃ o,H b=some o/\Big o:=by
 have j:((∃ C dx fs,H b=some Z0A)\/∃ xs,H b=some ZQ)->∃ o,H b=some o/\Big o:=λ z=>z.elim (λ⟨_,_,_,e⟩=>⟨_,e,trivial⟩) λ⟨_,e⟩=>⟨_,e,trivial⟩
 rcases LoL.eY h with h|⟨i,q,F,z⟩|h
 ·exact j (c.y7 h)
 ·obtain⟨T,_,th⟩:=c.zK F
  exact j (th.kind z)
 ·obtain⟨kvs,e⟩:=c.di.isd h
  exact⟨_,e,trivial⟩
theorem LoC.il (c:Z02):∀ b∈L.own A,H b≠none:=λ b j z=>by
 obtain⟨o,e,_⟩:=c.big j
 rw[z] at e;cases e
theorem LoC.sL (c:Z02) {b:Addr}{xs:Z04}(h:H b=some ZU):b∉L.own A:=λ z=>by
 obtain⟨o,e,q⟩:=c.big z
 rw[h] at e;cases e;exact q
theorem zm (d:Di G H D D') (k:(∃ C dx fs,H b=some Z0A)\/∃ xs,H b=some ZQ):b∉D.own D':=λ z=>by
 obtain⟨kvs,e⟩:=d.isd z
 rcases k with ⟨_,_,_,y⟩|⟨_,y⟩<;>(rw[e] at y;cases y)
theorem LoC.nd1 (c:Z02) (h:b∈[L.p,L.lt,L.lg]):b∉L.D.own A.A:=zm c.di (c.y7 h)
theorem LoC.nd2 (c:Z02) {b:Addr}{i:Nat}{q:ThL}(h:L.ths[i]? = some q) (j:b∈q.ad):b∉L.D.own A.A:=let ⟨_,_,th⟩:=c.zK h;zm c.di (th.kind j)
theorem LoC.frame (c:Z02) (sg:Z7Y) (s':ZL_) (kp:∀ b o,b∈L.own A->H b=some o->H' b=some o) (n:∀ b∈L.own A,G' b=none):LoC K t G' H' L A:=by
 obtain⟨xs,hx⟩:=c.log
 have di:=c.di.frame (H':=H') (λ b o hb e=>kp b o ZAs e) (λ b o e=>s' _ _ (sg _ _ e))
 exact⟨kp _ _ Z5p c.self,kp _ _ (LoL.gj Ze) c.tl,λ i q T hq hT=>(Z9S).keep sg s' (λ b o hb e=>kp b o Z6Q e) λ b hb=>n b Z6Q,c.len1,c.len2,⟨xs,kp _ _ (LoL.gj Z8F) hx⟩,
  ⟨di.po,di.ta,di.wy,di.ways,λ l hl=>sg _ _ ZI2,s',c.di.nd,λ b hb=>n b ZAs⟩,c.clo.same λ b o u e=>sg _ _ e,s',n,c.td,c.tb,c.ll⟩
theorem LoC.same (c:Z02) (s:Z1t):LoC K t G H' L A:=c.frame Z3F (c.held.trans s) Z8p c.gn
theorem LoC.lS (c:Z02) {j:Nat}{q q':ThL}{T':ThA}(hq:L.ths[j]? = some q) (g:ZDu) (bt:ZD1) (th:Th K t G' H' q' T') (pe:q'.p=q.p) (fr:∀ b∈q'.ad,b∈q.ad\/H b=none):LoC K t G' H' { L with ths:=Z6R} { A with ths:=Z4X}:=by
 have hj:=(ZCv).1
 have gn0:∀ b∈L.own A,G' b=none:=λ b hb=>g.free (c.il b hb) (c.gn b hb)
 have get:∀ i r,(L.ths.set j q')[i]? = some r->(i=j/\r=q')\/(i≠j/\L.ths[i]? = some r):=λ i r h=>by
  by_cases e:i=j
  ·subst e
   rw[F8 hj] at h;cases h
   exact ZMA
  ·rw[Z7F] at h
   exact ZKk
 have fresh:∀ {b:Addr},H b=none->b∉L.own A:=λ h z=>c.il _ z h
 have kp:∀ b o,b∈L.own A->b∉q.ad->H b=some o->H' b=some o:=λ b o _ n e=>bt b o n e
 obtain⟨xs,hx⟩:=c.log
 have n1:∀ b∈[L.p,L.lt,L.lg],b∉q.ad:=λ b hb z=>c.tb j q hq b z hb
 have di:=c.di.frame (H':=H') (λ b o hb e=>bt b o (λ z=>c.nd2 hq z hb) e) (λ b o e=>ZKJ)
 refine⟨bt _ _ ZJb c.self,?_,λ i r T hr hT=>?_,by rw[Hm];exact c.len1,by rw[Hm];exact c.len2,⟨xs,bt _ _ ZJb hx⟩,⟨di.po,di.ta,di.wy,di.ways,λ l hl=>g.sub _ _ ZI2,g.held,c.di.nd,λ b hb=>gn0 b ZAs⟩,c.clo.same λ b o u e=>ZA7,g.held,λ b hb=>?_,λ i k r s hr hs ik x hx hy=>?_,λ i r hr x hx hy=>?_,c.ll⟩
 ·show H' L.lt=_
  rw[bt _ _ ZJb c.tl]
  congr 2
  refine Z3U
  rw[FP,FP]
  by_cases e:j=i
  ·subst e;rw[F8 hj,hq];exact congrArg ZDZ pe.symm
  ·rw[Gk e]
 ·rcases get i r hr with ⟨rfl,rfl⟩|⟨ne,hr⟩
  ·have hT':(A.ths.set i T')[i]? = some T:=hT
   rw[F8 (by rw[c.len2,<- c.len1];exact hj)] at hT'
   cases hT';exact th
  ·have hT':(Z15)[i]? = some T:=hT
   rw[Gk Z4v] at hT'
   exact(c.th i r T hr hT').keep g.sub g.held (λ b o hb z=>bt b o (c.td i j r q hr hq ne b hb) z) λ b hb=>gn0 b ZBl
 ·rcases LoL.eY hb with hb2|⟨i,r,hr,hb2⟩|hb2
  ·exact gn0 b (LoL.gj hb2)
  ·rcases get i r hr with ⟨rfl,rfl⟩|⟨ne,hr2⟩
   ·unfold ThL.ad at hb2
    simp only[FR,FU,Ga] at hb2
    rcases hb2 with z|z|z
    ·rw[z];exact th.gp
    ·rw[z];exact th.gd
    ·rw[z];exact th.gw
   ·exact gn0 b (LoL.gD hr2 hb2)
  ·exact gn0 b (LoL.i5 hb2)
 ·rcases get i r hr with ⟨e1,e2⟩|⟨ne,hr2⟩
  ·subst e1;subst e2
   rcases get k s hs with ⟨e3,_⟩|⟨ne,hs2⟩
   ·exact ik e3.symm
   ·rcases fr x hx with z|z
    ·exact c.td i k q s hq hs2 ik x z hy
    ·exact fresh z (LoL.gD hs2 hy)
  ·rcases get k s hs with ⟨e1,e2⟩|⟨ne',hs2⟩
   ·subst e1;subst e2
    rcases fr x hy with z|z
    ·exact c.td i k r q hr2 hq ik x hx z
    ·exact fresh z (LoL.gD hr2 hx)
   ·exact c.td i k r s hr2 hs2 ik x hx hy
 ·rcases get i r hr with ⟨rfl,rfl⟩|⟨ne,hr⟩
  ·rcases fr x hx with z|z
   ·exact c.tb i q hq x z hy
   ·exact fresh z (LoL.gj hy)
  ·exact c.tb i r hr x hx hy
theorem LoC.yD (c:Z02) {D:DiL}{D':DiA}(bt:But (L.p::L.D.own A.A) H H') (hp:H' L.p=some (.ins t.c_Loom L.dx (loF L.dz A.many A.ord L.lt L.lg D))) (d':Di G H' D D'):LoC K t G H' { L with D:=D } { A with A:=D' }:=by
 obtain⟨xs,hx⟩:=c.log
 have hl:=c.tl
 have n1:∀ b xs,H b=some ZQ->b∈[L.p,L.lt,L.lg]->b∉L.p::L.D.own A.A:=λ b xs e hb z=>by
  rcases FR.mp z with z|z
  ·rw[z,c.self] at e;cases e
  ·exact c.nd1 hb z
 refine⟨hp,bt _ _ (n1 _ _ hl Z8) hl,λ i q T hq hT=>?_,c.len1,c.len2,⟨xs,bt _ _ (n1 _ _ hx Ze) hx⟩,d',c.clo,d'.held,λ b hb=>?_,c.td,c.tb,c.ll⟩
 ·refine(Z9S).keep Z3F d'.held ZAd λ b hb=>c.gn b Z6Q
  rcases FR.mp z with z|z
  ·exact c.tb i q hq b hb (by rw[z];simp)
  ·exact c.nd2 hq hb z
 ·rcases LoL.eY hb with hb|⟨i,r,hr,hb⟩|hb
  ·exact c.gn b (LoL.gj hb)
  ·exact c.gn b ZBl
  ·exact d'.gn b hb
theorem LoC.rL (c:Z02) {D':DiA}(bt:But ZMc H H') (d':Di G H' L.D D'):LoC K t G H' L { A with A:=D' }:=
 c.yD (bt.mono λ b hb=>FW _ hb) (bt _ _ (c.nd1 Z8) c.self) d'
theorem LoC.uH (c:Z02) {lg:Addr}{ys:Z04}(bt:ZFg) (hp:H' L.p=some (.ins t.c_Loom L.dx (loF L.dz A.many A.ord L.lt lg L.D))) (h:H' lg=some Zb) (e:lg=L.lg\/H lg=none):LoC K t G H' { L with lg:=lg } A:=by
 have gp:=Z61
 have gl:=c.gn _ (LoL.gj (L:=L) (A:=A) (b:=L.lg) Z8)
 have held:ZAC:=bt.same c.held λ b hb=>by
  simp only[FR,FU,Ga] at hb
  rcases hb with rfl|rfl
  ·exact gp
  ·exact gl
 have nn:∀ b,b∈L.own A->b≠L.p->b≠L.lg->b∉[L.p,L.lg]:=λ b _ n1 n2 z=>by
  simp only[FR,FU,Ga] at z
  exact z.elim n1 n2
 have np:∀ b xs,H b=some ZQ->b≠L.p:=λ b xs e z=>by rw[z,c.self] at e;cases e
 have nl:∀ {b:Addr},b∈L.own A->b≠L.lg->b≠lg:=λ hb n z=>by
  rcases e with e|e
  ·exact n (z.trans e)
  ·exact c.il _ hb (by rw[z];exact e)
 refine⟨hp,bt _ _ (nn _ Z5p (np _ _ c.tl) c.ll) c.tl,λ i q T hq hT=>?_,c.len1,c.len2,⟨ys,h⟩,?_,c.clo,held,λ b hb=>?_,c.td,λ i q hq x hx hy=>?_,nl (LoL.gj Ze) c.ll⟩
 ·refine(Z9S).keep Z3F held (λ b o hb e=>bt b o (λ z=>c.tb i q hq b hb ?_) e) λ b hb=>c.gn b Z6Q
  simp only[FR,FU,Ga] at z ⊢
  exact z.elim .inl λ z=>.inr ZEQ
 ·refine c.di.frame ZAd held
  simp only[FR,FU,Ga] at z
  rcases z with rfl|rfl
  ·exact c.nd1 Z8 hb
  ·exact c.nd1 Z8 hb
 ·rcases LoL.eY hb with hb|⟨i,r,hr,hb⟩|hb
  ·have hb':b∈[L.p,L.lt,lg]:=hb
   simp only[FR,FU,Ga] at hb'
   rcases hb' with rfl|rfl|rfl
   ·exact gp
   ·exact c.gn _ Z5p
   ·rcases e with rfl|e
    ·exact gl
    ·exact c.held.free e
  ·exact c.gn b ZBl
  ·exact c.gn b ZAs
 ·have hy':x∈[L.p,L.lt,lg]:=hy
  have:=c.tb i q hq x hx
  simp only[FR,FU,Ga,Hz] at hy' this
  rcases hy' with z|z|z
  ·exact this.1 z
  ·exact this.2.1 z
  ·exact nl (LoL.gD hq hx) this.2.2 z
end
def pL (ths:Z3d) (h p k:Nat) (x:Int×Int):Prop:=∃ T E,ths[h]? = some T/\T.evs[p]? = some E/\E.se[k]? = some x
def Used (ths:Z3d) (h p:Nat) (n:Nm3):Prop:=∃ T E,ths[h]? = some T/\T.evs[p]? = some E/\E.u=some n
noncomputable def nm3 (h p k:Nat):Nm3:=((h:Int),(p:Int)+1,(k:Int))
structure Lk (ths:List ThA) (A:DiA):Prop where
 s1:∀ l∈A.po,∃ h p k:Nat,l.nm=nm3 h p k/\pL ths h p k (l.to,l.wd)
 s2:∀ h p k x,pL ths h p k x->∃ l∈A.po,l.nm=nm3 h p k/\(l.to,l.wd)=x
 u1:∀ e∈A.ta,∃ h p:Nat,e.2=(p:Int)+1/\Used ths h p e.1
 u2:∀ h p n,Used ths h p n->(n,(p:Int)+1)∈A.ta/\∃ l∈A.po,l.nm=n/\l.to=h
theorem mV {q:Z3d}{j:Nat}{T:ThA}(h:q[j]? = some T):cnt q j=T.evs.length:=by
 unfold cnt
 rw[GB,h]
theorem vK (h:ths[j]? = some T) (F:T.evs.length<=T'.evs.length) (x):cnt ths x<=cnt Z2l x:=by
 have q:j<ths.length:=Z2D
 unfold cnt
 by_cases e:x.toNat=j
 ·rw[e,h,F8 q]
  dsimp only
  lia
 ·rw[Z7F]
  exact Z9U
theorem fz {q:Type}{l:List q}{j i:Nat}{a b:q}(F:j<l.length) (h:(l.set j a)[i]? = some b):(i=j/\b=a)\/(i≠j/\l[i]? = some b):=by
 by_cases e:i=j
 ·subst e
  rw[F8 F] at h;cases h
  exact ZMA
 ·rw[Z7F] at h
  exact ZKk
theorem eQ (h:(l++[a])[i]? = some b):l[i]? = some b\/(i=l.length/\b=a):=by
 by_cases e:i<l.length
 ·rw[Gw e] at h;exact Z5z
 ·rw[ZLw] at h
  have:=Z2D
  rw[F6] at this
  have j:i-l.length=0:=Z1
  rw[j] at h;cases h
  exact .inr ⟨Z1,rfl⟩
theorem vZ {j:Type}{l:List j}{i:Nat}{a b:j}(h:l[i]? = some b):(l++[a])[i]? = some b:=by
 rw[Gw (ZFd).1];exact h
section
variable {ths:List ThA}{j:Nat}{T T':ThA}
theorem nL {E:EvA}(hT:ths[j]? = some T) (he:T'.evs=T.evs++[E]) {h p:Nat}{Th E':_}(h1:(Z2l)[h]? = some Th) (h2:Th.evs[p]? = some E'):(∃ T0,ths[h]? = some T0/\T0.evs[p]? = some E')\/(h=j/\p=T.evs.length/\E'=E):=by
 rcases fz (FK.mp hT).1 h1 with ⟨rfl,rfl⟩|⟨_,z⟩
 ·rw[he] at h2
  rcases eQ h2 with z|⟨z,rfl⟩
  ·exact .inl ⟨_,hT,z⟩
  ·exact .inr ⟨rfl,z,rfl⟩
 ·exact .inl ⟨_,z,h2⟩
theorem vA {E:EvA}(J:ths[j]? = some T) (O:T'.evs=T.evs++[E]) {h p:Nat}{q:ThA}{E':EvA}(h1:ths[h]? = some q) (h2:q.evs[p]? = some E'):∃ F,(Z2l)[h]? = some F/\F.evs[p]? = some E':=by
 by_cases e:h=j
 ·subst e
  rw[J] at h1;cases h1
  exact⟨T',F8 (FK.mp J).1,by rw[O];exact vZ h2⟩
 ·exact⟨q,by rw[Z7F];exact h1,h2⟩
theorem xA (q:ths[j]? = some T) (F:T'.evs=T.evs++[E]):(Z2l)[j]? = some T'/\T'.evs[T.evs.length]? = some E:=⟨F8 (ZJE).1,by rw[F,Gh Z9,Hs];rfl⟩
theorem Lk.jk {E:EvA}{A U:DiA}{xs:List (Addr×Int×Int)}(lk:ZLo) (Y:ths[j]? = some T) (Z:T'.evs=T.evs++[E]) (hx:E.se=xs.map (·.2)) (hp:U.po=A.po++lets j (T.evs.length+1) xs)
  (ht:(E.u=none/\U.ta=A.ta)\/∃ l∈A.po,E.u=some l.nm/\l.to=j/\U.ta=A.ta++[(l.nm,(T.evs.length:Int)+1)]):Lk Z2l U:=by
 have hm:∀ e,e∈A.ta->e∈U.ta:=λ e h=>by
  rcases ht with ⟨_,z⟩|⟨l,_,_,_,z⟩
  ·rw[z];exact h
  ·rw[z];exact Gy _ h
 have pm:∀ l,l∈A.po->l∈U.po:=λ l h=>by rw[hp];exact Gy _ h
 obtain⟨la,lb⟩:=xA Y Z
 refine⟨λ l J=>?_,λ h p k x hs=>?_,λ e O=>?_,λ h p n hu=>?_⟩
 ·rw[hp] at J
  rcases FY.mp J with J|J
  ·obtain⟨h,p,k,z,V,E0,h1,h2,F⟩:=lk.s1 l J
   obtain⟨W,y1,y2⟩:=vA Y Z h1 h2
   exact⟨h,p,k,z,W,E0,y1,y2,F⟩
  ·obtain⟨k,x,z,rfl⟩:=hR.mp J
   exact⟨j,T.evs.length,k,rfl,T',E,la,lb,by rw[hx,FP,z];rfl⟩
 ·obtain⟨W,E1,h1,h2,F⟩:=hs
  rcases nL Y Z h1 h2 with ⟨V,z1,z2⟩|⟨rfl,rfl,rfl⟩
  ·obtain⟨l,J,y⟩:=lk.s2 h p k x ZG7
   exact⟨l,pm l J,y⟩
  ·rw[hx,FP] at F
   obtain⟨x',e,rfl⟩:=Gs.mp F
   exact⟨_,by rw[hp];exact Gf _ (hR.mpr ⟨k,x',e,rfl⟩),rfl,rfl⟩
 ·have a1:e∈A.ta->∃ h p:Nat,e.2=(p:Int)+1/\Used Z2l h p e.1:=λ q=>by
   obtain⟨h,p,z,V,E0,h1,h2,F⟩:=lk.u1 e q
   obtain⟨W,y1,y2⟩:=vA Y Z h1 h2
   exact⟨h,p,z,W,E0,y1,y2,F⟩
  rcases ht with ⟨_,z⟩|⟨l,_,hu,_,z⟩
  ·rw[z] at O;exact a1 O
  ·rw[z] at O
   rcases FY.mp O with q|q
   ·exact a1 q
   ·rw[FL] at q
    subst q
    exact⟨j,T.evs.length,rfl,T',E,la,lb,hu⟩
 ·obtain⟨W,E1,h1,h2,F⟩:=hu
  rcases nL Y Z h1 h2 with ⟨V,z1,z2⟩|⟨rfl,rfl,rfl⟩
  ·obtain⟨y1,l,J,y2⟩:=lk.u2 h p n ZG7
   exact⟨hm _ y1,l,pm l J,y2⟩
  ·rcases ht with ⟨z,_⟩|⟨l,J,hu,to,z⟩
   ·rw[z] at F;cases F
   ·rw[hu] at F;cases F
    exact⟨by rw[z];exact Z8h,l,pm l J,rfl,to⟩
theorem Lk.evs (W:ZLo) (h:∀ i:Nat,(ths'[i]?).map (·.evs)=(ths[i]?).map (·.evs)):Lk ths' A:=by
 have F:∀ {a b:List ThA},(∀ i:Nat,(a[i]?).map (·.evs)=(b[i]?).map (·.evs))->∀ {i:Nat} {T:ThA},a[i]? = some T->∃ q,b[i]? = some q/\q.evs=T.evs:=λ{a b} h {i T} e=>by
  have:=h i
  rw[e] at this
  obtain⟨q,y,z⟩:=Gs.mp this.symm
  exact⟨q,y,z⟩
 refine⟨λ l Z=>?_,λ h' p k x hs=>?_,λ e hm=>?_,λ h' p n hu=>?_⟩
 ·obtain⟨h',p,k,z,Y,J,h1,h2,O⟩:=W.s1 l Z
  obtain⟨q,U,V⟩:=ZCz
  exact⟨h',p,k,z,q,J,U,by rw[V];exact h2,O⟩
 ·obtain⟨Y,J,h1,h2,O⟩:=hs
  obtain⟨q,U,V⟩:=F h h1
  exact W.s2 h' p k x ⟨q,J,U,by rw[V];exact h2,O⟩
 ·obtain⟨h',p,z,Y,J,h1,h2,O⟩:=W.u1 e hm
  obtain⟨q,U,V⟩:=ZCz
  exact⟨h',p,z,q,J,U,by rw[V];exact h2,O⟩
 ·obtain⟨Y,J,h1,h2,O⟩:=hu
  obtain⟨q,U,V⟩:=F h h1
  exact W.u2 h' p n ⟨q,J,U,by rw[V];exact h2,O⟩
end
theorem xE {ths:Z3d}{j:Nat}{T T':ThA}(h:ths[j]? = some T) (e:T'.evs=T.evs) (i:Nat):((Z2l)[i]?).map (·.evs)=(ths[i]?).map (·.evs):=by
 by_cases z:i=j
 ·subst z
  rw[F8 (ZFd).1,h];exact Z36
 ·rw[Z7E]
theorem Lk.tp (F:ZLo):∀ e∈A.ta,∃ l∈A.po,l.nm=e.1/\1<=e.2/\e.2<=cnt ths l.to:=λ e J=>by
 obtain⟨h,p,z,q⟩:=F.u1 e J
 obtain⟨_,l,O,U,V⟩:=F.u2 h p e.1 q
 obtain⟨Y,W,h1,h2,Z⟩:=q
 have:=Z6b
 exact⟨l,O,U,Z1,by rw[V,mV h1];lia⟩
theorem TWf.hd (w:Z53):∃ q F,T.ws=q::F/\∀ z∈q::F,q<=z:=by
 obtain⟨q,F,e⟩:=List.exists_cons_of_ne_nil w.ne
 have J:=w.so
 rw[e] at J
 refine⟨q,F,e,λ z U=>?_⟩
 rcases FR.mp U with O|O
 ·lia
 ·exact Int.le_of_lt ((Ie.mp J).1 z O)
theorem TWf.pt (w:Z53) (h:ZGR):0<=y/\y<=T.evs.length:=by
 obtain⟨x,q,z⟩:=h
 have:=w.rg x q
 have:=w.dn
 lia
theorem TWf.more (w:Z53):TWf (n+1) T:=⟨w.ne,w.so,w.rg,w.dn,w.d0,by have:=w.en;lia,by have:=w.wn;lia⟩
theorem oQ {h:iP}{d l:Int}(dl:d<=l):d<=h.jk d (l+1)/\h.jk d (l+1)<=l+1:=by
 cases h with
 | never=>exact⟨Z9U,by show d<=_;omega⟩
 | each=>exact⟨by show d<=l+1;omega,Z9U⟩
 | bundle m=>
  show d<=(if l+1-d >= m then l+1 else d)/\(if l+1-d >= m then l+1 else d)<=l+1
  split<;>omega
theorem ve {h:iP}{d l:Int}(dl:d<=l):d<=h.fR d l/\h.fR d l<=l:=by
 cases h with
 | never=>exact⟨Z9U,dl⟩
 | each=>exact⟨Z9U,dl⟩
 | bundle m=>exact⟨dl,Z9U⟩
theorem B1 {T T':ThA}(J:∀ w∈T.ws,w∈T'.ws) (F:T.down<=T'.down) {y:Int}(h:ZGR):T'.pt y:=let ⟨w,a,z⟩:=h;⟨w,J w a,z.imp id λ q=>⟨q.1,HU q.2 F⟩⟩
theorem xJ {T:ThA}{Ew:EvA}{y:Int}(dn:T.down<=T.evs.length) (h:ZGR):({ T with evs:=T.evs++[Ew],down:=T.hab.jk T.down (T.evs.length+1) }:ThA).pt y:=let ⟨w,a,z⟩:=h;⟨w,a,z.imp id λ q=>⟨q.1,HU q.2 (oQ dn).1⟩⟩
theorem TWf.jk {n:Nat}{T:ThA}{Ew:EvA}(w:Z53):TWf (n+1) { T with evs:=T.evs++[Ew],down:=T.hab.jk T.down (T.evs.length+1) }:=by
 have d0:=w.d0
 have en:=w.en
 obtain⟨h1,h2⟩:=oQ (h:=T.hab) w.dn
 have len:((T.evs++[Ew]).length:Int)=T.evs.length+1:=by rw[FQ,F6];rfl
 refine⟨w.ne,w.so,λ z hz=>?_,?_,?_,?_,by have:=w.wn;show T.ws.length<=_;omega⟩
 ·have:=w.rg z hz
  show 0<=z/\z<=((T.evs++[Ew]).length:Int)
  omega
 ·show T.hab.jk T.down (T.evs.length+1)<=((T.evs++[Ew]).length:Int)
  omega
 ·show 0<=T.hab.jk T.down (T.evs.length+1)
  omega
 ·show (T.evs++[Ew]).length<=n+1
  omega
theorem TWf.wrote {n:Nat}{T:ThA}(w:Z53):TWf (n+1) T.wrote/\T.wrote.evs=T.evs/\∀ y,T.pt y->T.wrote.pt y:=by
 unfold ThA.wrote
 by_cases h:(T.evs.length:Int)∈T.ws
 ·rw[FX h];exact⟨w.more,rfl,λ _=>id⟩
 ·rw[ZLz]
  have d0:=w.d0
  obtain⟨h1,h2⟩:=ve (h:=T.hab) w.dn
  have mem:∀ z,z∈T.ws++[(T.evs.length:Int)]->z∈T.ws\/z=T.evs.length:=λ z hz=>(FY.mp hz).imp id FL.mp
  refine⟨⟨by show T.ws++_≠[];simp,?_,λ z hz=>?_,h2,by show 0<=T.hab.fR T.down T.evs.length;omega,by have:=w.en;show T.evs.length<=_;omega,?_⟩,rfl,λ y hy=>B1 (λ w hw=>Gy _ hw) h1 hy⟩
  ·show (T.ws++[(T.evs.length:Int)]).Pairwise (· < ·)
   refine Hd.mpr ⟨w.so,Jy _ _,λ a ha b hb=>?_⟩
   rw[FL] at hb
   subst hb
   have:=w.rg a ha
   have:a≠T.evs.length:=λ z=>h (by rw[<- z];exact ha)
   omega
  ·rcases mem z hz with y|y
   ·exact w.rg z y
   ·subst y;exact⟨ZC,Z9U⟩
  ·show (T.ws++[(T.evs.length:Int)]).length<=_
   have:=w.wn
   rw[FQ,F6];omega
theorem TWf.cut (w:Z53) (h:ZGR):TWf n (T.cutAt y)/\∀ x,T.pt x->x<=y->(T.cutAt y).pt x:=by
 obtain⟨y0,y1⟩:=w.pt h
 have en:=w.en
 have dn:=w.dn
 have Z:=w.d0
 have Y:((Z1w).length:Int)=y:=by rw[Gu];lia
 have F:∀ z,z∈T.ws.filter (λ z=>decide (z<=y))↔z∈T.ws/\z<=y:=λ z=>by rw[GG,GA]
 have J:∀ x,T.pt x->x<=y->∃ w∈T.ws,w<=y/\(x=w\/(w<x/\x<=T.down)):=λ x ⟨w,a,z⟩ U=>⟨w,a,Z1,z⟩
 refine⟨⟨?_,ZL6,λ z W=>?_,?_,?_,?_,?_⟩,λ x V U=>?_⟩
 ·obtain⟨O,a,b,_⟩:=J y h Z9U
  exact Ig ZG4
 ·obtain⟨a,b⟩:=(F z).mp W
  have:=w.rg z a
  show 0<=z/\z<=((Z1w).length:Int)
  lia
 ·show min T.down y<=((Z1w).length:Int)
  lia
 ·show 0<=min T.down y
  lia
 ·show (Z1w).length<=n
  lia
 ·exact Gd Z9r w.wn
 ·obtain⟨O,a,b,c⟩:=J x V U
  exact⟨O,ZG4,c.imp id λ q=>⟨q.1,by show x<=min T.down y;lia⟩⟩
theorem TWf.throw (w:Z53) (h:ZGR) (V:qD T.ws y kp):TWf n { T with ws:=T.ws.filter (λ z=>decide (z >= kp)) }/\({ T with ws:=T.ws.filter (λ z=>decide (z >= kp)) }:ThA).pt y:=by
 have J:∀ z,z∈T.ws.filter (λ z=>decide (z >= kp))↔z∈T.ws/\z >= kp:=λ z=>by rw[GG,GA]
 obtain⟨x,O,z⟩:=h
 have F:kp∈T.ws/\kp<=y/\∀ w∈T.ws,w<=y->w<=kp:=by
  rcases V with ⟨_,q⟩|q
  ·have:=q x O;lia
  ·exact q
 have U:=(J kp).mpr ⟨F.1,Z9U⟩
 refine⟨⟨Ig U,ZL6,λ z W=>w.rg z ((J z).mp W).1,w.dn,w.d0,w.en,Gd Z9r w.wn⟩,kp,U,?_⟩
 have:=F.2.2 x O
 show y=kp\/(kp<y/\y<=T.down)
 lia
def mI (b:Int->Int) (A:DiA):Prop:=∀ l∈A.po,∀ e∈A.ta,e.1=l.nm->e.2<=b l.to->l.nm.2.1<=b l.nm.1
structure Lo (K:W.Frag) (t:Adr) (G H:Hp) (L:LoL) (A:LoA) (n:Nat):Prop where
 c:Z02
 wf:Z1G
 lk:Lk A.ths A.A
 lg:∃ xs,H L.lg=some ZQ/\xs.length<=n/\∀ x∈xs,oK A.many H x
 tw:∀ T∈A.ths,Z53
 bn:A.A.po.length<=2*n/\A.A.wy.length<=A.A.po.length
 m2:2<=A.many/\A.many<=5
 fr:∃ a b m c:Int,A.fr=[.int A.many,ZAY,.int a,.int b,Z1M]/\0<m/\(-(2 ^ 64)<a/\a<2 ^ 64)/\(-(2 ^ 64)<b/\b<2 ^ 64)
 pts:∀ (j:Nat) T,A.ths[j]? = some T->T.pt (A.b j)
 snd:mI A.b A.A
noncomputable def wdA (ths:Z3d) (h p:Nat):Zc:=((ths[h]?.bind λ T=>T.evs[p]?).map EvA.sa).getD []
theorem kz (a:ths[h]? = some T) (b:T.evs[p]? = some E):wdA ths h p=E.sa:=by
 unfold wdA
 rw[a,I0,b];rfl
theorem rR (q:ths[j]? = some T0) (e:h=j->T'.evs[p]? = T0.evs[p]?):wdA Z2l h p=wdA ths h p:=by
 unfold wdA
 by_cases z:h=j
 ·subst z
  rw[F8 (ZJE).1,q,I0,I0,e rfl]
 ·rw[Z7E]
structure Stp (G G' H H':Hp) (L:LoL) (A:LoA) (L':LoL) (A':LoA):Prop where
 p:L'.p=L.p
 bt:But ZEe H H'
 em:A'.many=A.many
 eo:A'.ord=A.ord
 eb:∀ i:Nat,i<A.many->A.b i<=A'.b i
 fr:∀ b∈L'.own A',b∈L.own A\/H b=none
 ev:∀ h p:Nat,h<A.many->(p:Int)<A.b h->wdA A'.ths h p=wdA A.ths h p
 gk:∀ b o,b∉L.own A->H b=some o->Big o->G b=none->G' b=none
theorem Stp.trans (a:Z5d) (b:Stp G' G'' H' H'' L' A' L'' A''):Stp G G'' H H'' L A L'' A'':=by
 refine⟨b.p.trans a.p,λ x o n e=>b.bt x o Z2t (a.bt x o n e),b.em.trans a.em,b.eo.trans a.eo,λ i h=>HU (a.eb i h) (b.eb i (by rw[a.em];exact h)),λ x O=>?_,λ h p F J=>(b.ev h p (by rw[a.em];exact F) (Jl J (a.eb h F))).trans (a.ev h p F J),λ c o n e g z=>b.gk c o (λ y=>(a.fr c y).elim n λ y=>by rw[y] at e;cases e) (a.bt c o n e) g (a.gk c o n e g z)⟩
 ·rcases a.fr x z with y|y
  ·exact n y
  ·rw[y] at e;cases e
 ·rcases b.fr x O with y|y
  ·exact a.fr x y
  ·by_cases z:x∈L.own A
   ·exact Z9F
   ·cases q:H x with
    | none=>exact Z5k
    | some o=>rw[a.bt x o z q] at y;cases y
theorem Stp.of (s:Z1t):Stp G G H H' L A L A:=⟨rfl,But.of s,rfl,rfl,λ _ _=>Z9U,λ _ h=>Z5z,λ _ _ _ _=>rfl,λ _ _ _ _ _ z=>z⟩
theorem LoC.stp {G H H':Hp}{L:LoL}{A:LoA}(c:Z02) {j:Nat}{q q':ThL}{T0 T':ThA}(hq:L.ths[j]? = some q) (hT:A.ths[j]? = some T0) (bt:ZD1) (fr:∀ b∈q'.ad,b∈q.ad\/H b=none) (ev:∀ p:Nat,(p:Int)<A.b j->T'.evs[p]? = T0.evs[p]?):Stp G G H H' L A { L with ths:=Z6R} { A with ths:=Z4X}:=by
 refine⟨rfl,bt.mono λ b hb=>Z6Q,rfl,rfl,λ _ _=>Z9U,λ b hb=>?_,λ h p _ lt=>rR hT λ e=>ev p (by rw[<- e];exact lt),λ _ _ _ _ _ z=>z⟩
 rcases LoL.eY hb with y|⟨i,r,hr,y⟩|y
 ·exact ZJW
 ·rcases fz (FK.mp hq).1 hr with ⟨rfl,rfl⟩|⟨_,hr⟩
  ·exact(fr b y).imp (λ z=>LoL.gD hq z) id
  ·exact ZG_
 ·exact .inl (LoL.i5 y)
theorem Lo.same (lo:Za) (s:Z1t):ZHA:=
 let ⟨xs,h,F,r⟩:=lo.lg
 ⟨lo.c.frame Z3F (lo.c.held.trans s) Z8p lo.c.gn,lo.wf,lo.lk,⟨xs,s _ _ h,F,λ x q=>(r x q).keep λ b xs e=>Z6G⟩,lo.tw,lo.bn,lo.m2,lo.fr,lo.pts,lo.snd⟩
theorem nz (h:∀ T∈ths,Z53) (x):cnt ths x<=n:=by
 unfold cnt
 cases e:ths[x.toNat]? with
 | none=>dsimp only;lia
 | some T=>
  have:=(h T (FT e)).en
  dsimp only;lia
theorem Lo.at (lo:Za) (F:j<A.many):∃ q T,L.ths[j]? = some q/\A.ths[j]? = some T/\Th K t G H q T/\TWf n T/\(Z03)[j]? = some (Z4B):=by
 have h1:=FJ (l:=L.ths) (i:=j) (by rw[lo.c.len1];exact F)
 have h2:=FJ (l:=A.ths) (i:=j) (by rw[lo.c.len2];exact F)
 exact⟨_,_,h1,h2,lo.c.th j _ _ h1 h2,lo.tw _ (FT h2),by rw[FP,h1];rfl⟩
inductive How (H:Hp) (A:LoA) (h:Int):V->V->Option Nm3->Prop
 | own:How H A h .non .non none
 | use {b:Addr} {l:fk}:H b=some Z9c->l∈A.A.po->l.nm∉A.A.ta.map (·.1)->l.to=h->How H A h Zj Z86 (some l.nm)
section
variable {G H H':Hp}{q:ThL}{T0:ThA}{Q:VK}{E:XK}{L:LoL}{A:LoA}{n j:Nat}
theorem j2 (th:Z4L) (k:Q Z1y H):yB t K [Z4B] H Q E:=by
 obtain⟨es,J,F⟩:=th.done
 rw[<- F.1] at k
 exact⟨q.p,q.dx,_,q.ha,q.dn,q.wr,_,es,rfl,th.self,SqL.of J,k⟩
theorem vj (th:Z4L) (J:ZLd) (k:∀ st:Int,Q ZJQ H):yT K t [Z4B,Z1y] H Q E:=by
 obtain⟨es,V,O⟩:=th.done
 obtain⟨Y,Z,U,_⟩:=J.hd
 have F:(es.length:Int)=T0.evs.length:=by rw[O.1]
 refine⟨G,q.p,q.dx,_,q.ha,q.dn,q.wr,_,Y,Z,es,T0.evs,T0.evs.length,rfl,th.held,th.self,by rw[<- U];exact th.fR,V,O,λ z W=>by rw[F];exact J.rg z (by rw[U];exact W),by rw[F];exact J.dn,.inl F.symm,k _⟩
theorem CS {e:Addr}{Ew:EvA}(th:Z4L) (ev:EvO K t G e Ew) (few:T0.evs.length<=900) (k:∀ G' H',fD H G G' H'->But [q.p,q.dn] H H'->Th K t G' H' q { T0 with evs:=T0.evs++[Ew],down:=T0.hab.jk T0.down (T0.evs.length+1) }->Q .non H'):x9 K t [Z4B,ZGX] H Q E:=⟨G,q,T0,e,Ew,rfl,th,ev,few,k⟩
theorem gA (T:ZJ) (c:Z02) (h0:σ[0]? = some ZE) (h1:σ[1]? = some ZCb) (F:(Z03)[j]? = some Z4B):Ev (tOp Z9H (nh K ZCN "threads") ZAj) σ H (Z4B):=
 λ _ k=>⟨_,h0,L.p,_,L.dx,_,_,rfl,c.self,T.cl_Loom,T.na_bx,rfl,_,h1,L.lt,_,j,Z4B,rfl,rfl,SqL.of c.tl,dW F,k⟩
theorem ir (c:Z02) (F:j<A.many) (k:Q .non H):yH t [Zk,Z0r] H Q E:=⟨L.p,L.dx,L.dz,A.many,A.ord,L.lt,L.lg,L.D,j,rfl,c.self,Z1,Z1,k⟩
theorem oT (s:ZGO) (S:Zq) (O:∀ b∈S,∃ xs,H b=some ZU):∃ F,cG G F/\cG F H/\(∀ b∈S,F b=H b)/\∀ b,G b=none->(∀ xs,H b≠some ZU)->F b=none:=by
 classical
 refine⟨λ b=>if b∈S then H b else G b,λ b o e=>?_,λ b o e=>?_,λ b U=>FX U,λ b e n=>?_⟩
 ·show (if b∈S then H b else G b)=_
  split
  ·exact Z6G
  ·exact e
 ·have J:(if b∈S then H b else G b)=some o:=e
  split at J
  ·exact J
  ·exact s _ _ J
 ·show (if b∈S then H b else G b)=_
  split
  ·next h=>
   obtain⟨xs,z⟩:=O b h
   exact absurd z (n xs)
  ·exact e
theorem lT {G7 H7:Hp}{T':ThA}{Ew:EvA}{A1:DiA}{m1:Addr}{ls:List (Addr×Int×Int)}(lo:Za) (nn:n<30) (hT:A.ths[j]? = some T0) (he:T'.evs=T0.evs++[Ew]) (tw':TWf (n+1) T') (pt':∀ y,T0.pt y->T'.pt y)
  (c7:LoC K t G7 H7 L { A with ths:=Z15,A:=A1 }) (wf7:WfD A.many (cnt Z15) A1) (po7:A1.po=A.A.po) (wl7:A1.wy.length=A.A.wy.length) (ow7:L.D.own A1=L.D.own A.A)
  (ht:(Ew.u=none/\A1.ta=A.A.ta)\/∃ l∈A.A.po,Ew.u=some l.nm/\l.to=j/\A1.ta=A.A.ta++[(l.nm,(T0.evs.length:Int)+1)]) (bt7:But ZEe H H7) (gk7:∀ b o,b∉L.own A->H b=some o->Big o->G b=none->G7 b=none) (lg7:∀ xs,H L.lg=some ZQ->H7 L.lg=some ZQ)
  (hm7:H7 m1=some (.lst (ls.map λ x=>Z3q))) (few:ls.length<=2) (hls:∀ x∈ls,G7 x.1=some Zu/\0<=x.2.1/\x.2.1<A.many) (hx:Ew.se=ls.map (·.2))
  (k:∀ G' H' A',Stp G G' H H' L A L A'->Lo K t G' H' L A' (n+1)->(∃ xs,H' L.lg=some ZQ/\xs.length<=n)->Q .non H'):y4 K t [Zk,Z0r,.int ((T'.evs.length:Nat):Int),.ref m1] H7 Q E:=by
 have hj:j<A.many:=by rw[<- lo.c.len2];exact Z9K
 have hlen:T'.evs.length=T0.evs.length+1:=by rw[he];simp
 have hTj:(Z15)[j]? = some T':=F8 (by rw[lo.c.len2];exact hj)
 have bn:=lo.bn
 refine⟨G7,L.p,L.dx,L.dz,A.many,A.ord,L.lt,L.lg,L.D,A1,m1,j,T'.evs.length,ls,A.many,cnt Z15,rfl,c7.self,c7.di,wf7,c7.nd1 Z8,λ z=>?_,SqL.of hm7,Z6h,hls,Z6h,Z6h,Z6h,by rw[mV hTj];exact Z9U,λ l' hl' el'=>?_,by rw[po7];omega,by rw[wl7];omega,λ H8 A8 b8 d8 w8 e1 e2 e3 fr8=>?_⟩
 ·obtain⟨kvs,y⟩:=c7.di.isd z
  rw[hm7] at y;cases y
 ·rw[po7] at hl'
  have:=(lo.wf.rg l' hl').2.2.2.1
  rw[el',mV hT] at this
  omega
 have bt8:But ZEe H H8:=λ b o nb z=>b8 b o (λ y=>nb (LoL.i5 (by rw[ow7] at y;exact y))) (bt7 b o nb z)
 obtain⟨lx,lgx,lln,lrr⟩:=lo.lg
 have lg8:H8 L.lg=some ZJr:=b8 _ _ (c7.nd1 (L:=L) (b:=L.lg) Z8) (lg7 _ lgx)
 have e2':A8.po=A.A.po++lets j (T0.evs.length+1) ls:=by rw[e2,po7,hlen];rfl
 have lk8:Lk Z15 A8:=lo.lk.jk hT he hx e2' (by rw[e1];exact ht)
 have len8:A8.po.length=A.A.po.length+ls.length:=by rw[e2',FQ];unfold lets;rw[Jk]
 refine k G7 H8 { A with ths:=Z15,A:=A8 } ⟨rfl,bt8,rfl,rfl,λ _ _=>Z9U,λ b hb=>?_,λ h p _ lt=>rR hT λ e=>?_,gk7⟩ ⟨c7.rL b8 d8,w8,lk8,⟨lx,lg8,ZC,λ x hx=>(lrr x hx).keep λ b xs e=>bt8 _ _ (lo.c.sL e) e⟩,λ T1 hT1=>?_,⟨by show A8.po.length<=_;omega,by show A8.wy.length<=A8.po.length;omega⟩,lo.m2,lo.fr,λ i T1 h1=>?_,λ l hl e hm ee le=>?_⟩ ⟨lx,lg8,lln⟩
 ·rcases LoL.eY hb with y|⟨i,r,hr,y⟩|y
  ·exact ZJW
  ·exact ZG_
  ·rcases fr8 b y with y|y
   ·exact .inl (LoL.i5 (by rw[ow7] at y;exact y))
   ·by_cases nb:b∈L.own A
    ·exact .inl nb
    ·cases hb':H b with
     | none=>exact Z5k
     | some o=>rw[bt7 b o nb hb'] at y;cases y
 ·have:=ZIE
  subst e
  rw[he,Gw ZC]
 ·rcases List.mem_or_eq_of_mem_set hT1 with y|y
  ·exact(lo.tw T1 y).more
  ·rw[y];exact tw'
 ·rcases fz (by rw[lo.c.len2];exact hj) h1 with ⟨rfl,rfl⟩|⟨_,z⟩
  ·exact pt' _ (lo.pts i T0 hT)
  ·exact ZLK
 ·have old:∀ l'∈A.A.po,e.1=l'.nm->l=l':=λ l' hl' e'=>fW w8.nd hl (by rw[e2'];exact Gy _ hl') (ee.symm.trans e')
  have hm':e∈A8.ta:=hm
  rw[e1] at hm'
  have go:e∈A.A.ta->l.nm.2.1<=A.b l.nm.1:=λ q=>by
   obtain⟨l',hl',y,_⟩:=lo.lk.tp e q
   have:=old l' hl' y.symm
   subst this
   exact lo.snd l hl' e q ee le
  rcases ht with ⟨_,z⟩|⟨l',hl',_,to,z⟩
  ·rw[z] at hm';exact go hm'
  ·rw[z] at hm'
   rcases FY.mp hm' with q|q
   ·exact go q
   ·rw[FL] at q
    subst q
    have:=old l' hl' rfl
    subst this
    have:=ZIE
    rw[to] at le
    have le':(T0.evs.length:Int)+1<=A.b j:=le
    omega
end
def EY (K:W.Frag) (t:Adr):Sp:=λ vs H Q _=>∃ G L A n,∃ j:Nat,∃ v w u,vs=[Zk,Z0r,v,w]/\Lo K t G H L A n/\n<30/\j<A.many/\How H A j v w u /\
 ∀ G' H' A',Stp G G' H H' L A L A'->Lo K t G' H' L A' (n+1)->(∃ xs,H' L.lg=some ZQ/\xs.length<=n)->Q .non H'
theorem zb (T:ZJ):dk P w K mg base ZM 5 t.f_bo t.fd_bo ["self","hand","name","word"] (EY K t):=by
 refine T.F_bo.okN rz Z6 ZB
 ·obtain⟨G,L,A,n,j,v,w,u,rfl,_⟩:=h;rfl
 ·obtain⟨G,L,A,n,j,v,w',u,rfl,lo,nn,hj,how,k⟩:=h
  refine⟨_,(cD (cV (i:=4) rz.nd rfl Z5 Z2_)
   (cD (cV (i:=5) rz.nd rfl Z5 (tZ (Bu (K:=K) T) Z0 ZX T.cl_Loom T.na_dj cH (cF ZI (cF (cW Z1F T.cl_Thread T.me_ap (DS (K:=K) T) Z0 T.b_ap .nil cH (cF Z0f cC)) Z2s))))
   (cD (cV (i:=6) rz.nd rfl Z5 (fI T.mk_Event ZMF Z0 rfl T.mg_Event T.b_cr .nil cH (cF ZV (cF Z2q (cF Z2q (cF Z2q cC))))))
   (cD (cR (cW Z1F T.cl_Thread T.me_db (Ee (K:=K) T) Z0 T.b_db .nil cH Z1r))
   (cD (dy (cZ mP ZV iU Z0Z)
    (cD (j6 Z1H Z2 ZV Z0f rfl)
   (cE (cR (dQ (K:=K) IL PySem.F.slot_dict_pop PySem.F.type_dict_pop (wI Z1H) (fu Z1H Z2 (eC Z5O) ZA) Z0x))))
    da)
   (cE (cR (cW ZX T.cl_Loom T.me_dc ZMM Z0 T.b_dc .nil cH (cF ZI (cF Z0f (cF (cK (K:=K) Z5y rfl) cC))))))))))),?_⟩
  refine Z16
  obtain⟨q,T0,hq,hT,th,tw,hqs⟩:=ZGH
  have m2:=lo.m2
  refine gA T lo.c rfl rfl hqs _ ?_
  refine(sn ee1 λ rr2 ee2=>?_:Z5E)
  refine⟨_,rfl,L.p,L.dx,_,L.dz,_,rfl,lo.c.self,rfl,lo.c.clo.same (λ b o u e=>lo.c.held _ _ e),?_⟩
  refine⟨_,rfl,tm ZL th.self rfl (vs:=[Z1y]) (λ Q' q'=>tm ZL th.self rfl .nil (j2 th q')) (vj th tw λ st=>?_)⟩
  obtain⟨fa,fb,fm,fc,fe,f1,f2,f3⟩:=lo.fr
  rw[fe]
  refine⟨_,rfl,Z3F,fa,fb,fm,fc,A.many,j,st,w',rfl,rfl,by cases how with|own=>exact .inl rfl|use _ _ _ _=>exact .inr ⟨_,rfl⟩,by omega,by omega,by omega,by omega,f1,f2,f3,λ H1 r st' l1 l2 ls zs s1 hr1 h1 few hls h2 lw=>?_⟩
  refine(sn ee2 λ rr3 ee3=>?_:Z6H)
  refine⟨_,rfl,_,rfl,r,_,0,_,rfl,rfl,ZH5,rfl,_,rfl,r,_,1,_,rfl,rfl,ZH5,rfl,_,rfl,r,_,2,_,rfl,rfl,ZH5,rfl,λ e dxe ne nde nd=>?_⟩
  obtain⟨Sn,hSn,rpu⟩:∃ Sn:List Addr,(∀ b∈Sn,∃ xs,H b=some (.tup xs))/\∀ G1:Hp,(∀ b∈Sn,G1 b=H b)->UsO G1 v u:=by
   cases how with
   | own=>exact⟨[],(λ b hb=>by cases hb),λ _ _=>rfl⟩
   | @use b l hb _ _ _=>exact⟨[b],(λ c hc=>by rw[FL] at hc;rw[hc];exact⟨_,hb⟩),λ G1 h=>⟨b,rfl,by rw[h b Z8];exact hb⟩⟩
  obtain⟨G1,z1,z2,z3,z4⟩:=oT (lo.c.held.trans s1) (Sn++ls.map (·.1)) λ b hb=>by
   rcases FY.mp hb with hb|hb
   ·obtain⟨xs,y⟩:=hSn b hb
    exact⟨xs,ZCd⟩
   ·obtain⟨x,hx,rfl⟩:=F2.mp hb
    exact⟨_,(Z9h).1⟩
  have hlsG:∀ x∈ls,G1 x.1=some Zu:=λ x hx=>by rw[z3 x.1 (Gf _ (F4 hx))];exact(Z9h).1
  have c1:LoC K t G1 H1 L A:=lo.c.frame z1 z2 (λ b o _ y=>ZCd) λ b hb=>z4 b (lo.c.gn b hb) λ xs y=>by
   obtain⟨o,e,g⟩:=lo.c.big hb
   rw[s1 _ _ e] at y
   cases y;exact g
  refine⟨e,dxe,v,st',l1,l2,_,_,rfl,cy,SqL.of (cG.ins ne nde _ _ h1),by rw[FO];omega,λ x hx=>?_,SqL.of (cG.ins ne nde _ _ h2),λ m1 m2 H5 nm1 nm2 nm12 hH5=>Z2k⟩
  ·obtain⟨y,hy,rfl⟩:=F2.mp hx
   exact⟨y.1,_,rfl,SqT.of (cG.ins ne nde _ _ (hls y hy).1)⟩
  refine(sn ee3 λ rr4 ee4=>?_:ZA1)
  obtain⟨G2,g2,s5,evo,ge2,gm2⟩:=vm (K:=K) (Ew:=⟨u,st',ls.map (λ x:Addr×Int×Int=>x.2),zs⟩) z2 ne nde nm1 nm2 nm12 hH5 (rpu G1 λ b hb=>by
   rw[z3 b (Gy _ hb)]
   obtain⟨xs,y⟩:=hSn b hb
   rw[y,ZCd]) ⟨ls,rfl,rfl,hlsG⟩ (by rw[FO];omega) ⟨rfl,lw⟩
  have c2:LoC K t G2 H5 L A:=c1.frame g2.sub g2.held (λ b o _ y=>s5 _ _ y) λ b hb=>g2.free (c1.il b hb) (c1.gn b hb)
  refine tm ZL (ZGP).self rfl Zd (CS ZGP evo (by have:=tw.en;omega) λ G3 H6 g3 b3 th3=>?_)
  refine(sn ee4 λ rr5 ee5=>?_:ZA0)
  have c3:=c2.lS hq g3 (b3.mono λ b hb=>by unfold ThL.ad;simp only[FR,FU,Ga] at hb ⊢;exact ZKG) th3 rfl λ b hb=>ZJU
  have hset:L.ths.set j q=L.ths:=by
   obtain⟨lt,rfl⟩:=ZCv
   exact ZC7
  rw[hset] at c3
  obtain⟨T',hT'⟩:∃ T',T'={ T0 with evs:=T0.evs++[(⟨u,st',ls.map (λ x:Addr×Int×Int=>x.2),zs⟩:EvA)],down:=T0.hab.jk T0.down (T0.evs.length+1) }:=Z18
  rw[<- hT'] at th3 c3
  have c3:LoC K t G3 H6 L { A with ths:=Z4X}:=c3
  have he':T'.evs=T0.evs++[⟨u,st',ls.map (λ x:Addr×Int×Int=>x.2),zs⟩]:=by rw[hT']
  have el':T'.evs.length=T0.evs.length+1:=by rw[he'];simp
  have tw':TWf (n+1) T':=by rw[hT'];exact tw.jk
  have pt':∀ y,T0.pt y->T'.pt y:=λ y h=>by rw[hT'];exact xJ tw.dn h
  have wf3:WfD A.many (cnt Z15) A.A:=lo.wf.mono λ x=>vK hT ZC x
  have qI:∀ b∈[q.p,q.dn],b∈q.ad:=λ b hb=>by
   unfold ThL.ad
   simp only[FR,FU,Ga] at hb ⊢
   exact ZKG
  have bt6:But ZEe H H6:=λ b o nb y=>b3 b o (λ z=>nb (LoL.gD hq (qI b z))) (s5 _ _ ZCd)
  have gk6:∀ b o,b∉L.own A->H b=some o->Big o->G b=none->G3 b=none:=λ b o _ e g z=>g3.free (by rw[s5 _ _ ZCK];simp) (g2.free (by rw[s1 _ _ e];simp) (z4 b z λ xs y=>by rw[s1 _ _ e] at y;cases y;exact g))
  have lg6:∀ xs,H L.lg=some ZQ->H6 L.lg=some ZQ:=λ xs y=>b3 _ _ (λ z=>lo.c.tb j q hq _ (qI _ z) Z8) (s5 _ _ ZCd)
  have gl3:∀ x∈ls,G3 x.1=some Zu/\0<=x.2.1/\x.2.1<A.many:=λ x hx=>⟨g3.sub _ _ (g2.sub _ _ (hlsG x hx)),(Z9h).2⟩
  have ge3:=g3.sub _ _ ge2
  have gm3:=g3.sub _ _ gm2
  have hTj:(Z15)[j]? = some T':=F8 (by rw[lo.c.len2];exact hj)
  cases how with
  | own=>
   refine⟨_,rfl,rfl,_,rfl,ZIb⟩
   subst ee5
   refine tm ZL c3.self rfl (vs:=Z8N) (.cons ZL (.cons (λ Q' q'=>tm ZL (Z7Z).self rfl .nil (j2 Z7Z q')) (.cons (.f ZL (c3.held _ _ ge3) T.cl_Event T.na_cy jf) .nil))) ?_
   exact lT lo nn hT he' tw' pt' c3 wf3 rfl rfl rfl ZMA bt6 gk6 lg6 (c3.held _ _ gm3) few gl3 rfl k
  | @use b l hb hl nt to=>
   refine⟨_,rfl,rfl,_,rfl,gE rfl ?_⟩
   have th6:=Z7Z
   have nbo:∀ c∈L.own A,b≠c:=λ c hc y=>lo.c.sL hb (by rw[y];exact hc)
   have hb6:H6 b=some (.tup ((Z0i).map kV)):=bt6 _ _ (λ y=>nbo b y rfl) hb
   have v1:eu (A.A.ta.map λ e=>(Z1J,Z0Y)) (Z0i)=none:=gL (λ e:Nm3×Int=>Z1J) Z4_ λ e he y=>nt (by rw[<- eZ _ _ y];exact ZJI)
   have bn:=lo.bn
   have lta:A.A.ta.length<=A.A.po.length:=by
    have:=kM (b:=A.A.po.map (·.nm)) lo.wf.nt λ z hz=>by
     obtain⟨e,he,rfl⟩:=F2.mp hz
     obtain⟨l',hl',y,_⟩:=ZCh
     rw[<- y];exact F4 hl'
    rwa [FO,FO] at this
   refine tm ZL th6.self rfl .nil (j2 th6 ?_)
   refine⟨_,rfl,L.p,_,L.dx,_,_,rfl,c3.self,T.cl_Loom,T.na_da,rfl,_,rfl,L.D.ta,_,rfl,.inr ⟨_,Z0i,b,c3.di.ta,rfl,hb6,dc (by rw[FO];show A.A.ta.length<=1000;omega),rfl⟩,?_⟩
   rw[gX _ v1]
   obtain⟨e0,he0,k0⟩:=ZHi
   have taI:L.D.ta∈L.D.own A.A:=by unfold DiL.own;simp
   have wyI:L.D.wy∈L.D.own A.A:=by unfold DiL.own;simp
   have e0I:e0.2.1∈L.D.own A.A:=DiL.gG he0
   obtain⟨x1,x2,x3,x4,x5⟩:=c3.di.nes
   have pta:L.p≠L.D.ta:=λ y=>c3.nd1 (b:=L.p) Z8 (by rw[y];exact taI)
   have wta:L.D.wy≠L.D.ta:=Ne.symm x3
   have eta:e0.2.1≠L.D.ta:=(x4 e0 he0).2.1
   have bta:b≠L.D.ta:=nbo _ (LoL.i5 taI)
   refine⟨_,rfl,L.p,_,L.dx,_,_,rfl,by rw[cz pta];exact c3.self,T.cl_Loom,T.na_dl,rfl,_,rfl,b,nV l.nm,0,.int l.nm.1,rfl,rfl,SqT.of (by rw[cz bta];exact hb6),dR,_,rfl,by show 2<=sizeLine;decide,λ kb hkb=>?_⟩
   have v2:eu (A.A.wy.map λ e=>(Z3l,Z1h)) (wk (l.nm.1,(j:Int)))=some (.ref e0.2.1):=by
    rw[<- to,<- k0]
    exact eS (λ e=>Z3l) ZFn (fH (f:=λ x:(Int×Int)×Addr×List Nm3=>x.1) jF lo.wf.wn) he0
   have v3:eu (e0.2.2.map λ n=>(Z6L,Z0h)) (Z0i)=some Z2N:=eS nk ZFo (yZ eZ ZIR) ((ZEq).mpr ⟨l,hl,rfl,by rw[k0],by rw[k0],nt⟩)
   obtain⟨ot,hot⟩:∃ ot,ot=HO.dT ((A.A.ta.map λ e=>(nk e.1,V.int e.2))++[(nk l.nm,V.int T'.evs.length)]):=Z18
   rw[<- hot] at hkb ⊢
   have up:∀ c o,c≠L.D.ta->H6 c=some o->upd ZGa kb ZCX c=some o:=λ c o nc y=>by
    rw[cz (cB (o:=o) (by rw[ZH0];exact y) hkb),ZH0];exact y
   have way6:=up _ _ eta (c3.di.ways e0 he0)
   have ta6:upd ZGa kb ZCX L.D.ta=some ot:=by rw[cz (cB cy hkb),cy]
   refine⟨L.D.wy,.ref e0.2.1,rfl,.inr ⟨_,wk (l.nm.1,(j:Int)),kb,.inl (up _ _ wta c3.di.wy),rfl,cy,v2.symm⟩,.inr (.inr (.inl ⟨rfl,.inr ⟨_,way6⟩⟩)),_,rfl,e0.2.1,b,_,Z0i,.bl true,rfl,rfl,way6,up _ _ bta hb6,v3,?_⟩
   rw[qi]
   generalize upd (upd H6 L.D.ta ot) kb (.tup [.int l.nm.1,.int j])=H7 at up ta6 way6 ⊢
   obtain⟨d7,own7⟩:=c3.di.take (l:=l) (pl:=T'.evs.length) (e0:=e0) (H':=upd H7 e0.2.1 (.dT ((e0.2.2.filter λ x=>decide (x≠l.nm)).map λ n=>(Z6L,Z0h)))) lo.wf.wn he0 k0 (by rw[cz (Ne.symm eta),ta6,hot]) cy (λ c o n1 n2 _ y=>by rw[cz n2];exact up c o n1 y) (λ c o y=>by rw[cz (cB y (c3.di.gn _ e0I))];exact up c o (cB y (c3.di.gn _ taI)) (c3.di.held _ _ y))
   have b67:But ZMc H6 (upd H7 e0.2.1 (.dT ((e0.2.2.filter λ x=>decide (x≠l.nm)).map λ n=>(Z6L,Z0h)))):=λ c o nc y=>by
    rw[cz (λ z=>nc (by rw[z];exact e0I))];exact up c o (λ z=>nc (by rw[z];exact taI)) y
   generalize upd H7 e0.2.1 (.dT ((e0.2.2.filter λ x=>decide (x≠l.nm)).map λ n=>(nk n,V.bl true)))=H8 at d7 b67 ⊢
   have c7:LoC K t G3 H8 L { A with ths:=Z15,A:=A.A.take l T'.evs.length }:=c3.rL b67 d7
   subst ee5
   refine tm ZL c7.self rfl (vs:=Z8N) (.cons ZL (.cons (λ Q' q'=>tm ZL (ZFP).self rfl .nil (j2 ZFP q')) (.cons (.f ZL (c7.held _ _ ge3) T.cl_Event T.na_cy jf) .nil))) ?_
   exact lT lo nn hT he' tw' pt' c7 (wf3.take hl nt ZC) rfl (by show (iJ _ _ _).length=_;unfold iJ;rw[FO]) own7 (.inr ⟨l,hl,rfl,to,by rw[show (T0.evs.length:Int)+1=(T'.evs.length:Int) from ZC];rfl⟩) (λ c o nc y=>b67 c o (λ z=>nc (LoL.i5 z)) (bt6 c o nc y)) gk6 (λ xs y=>b67 _ _ (c3.nd1 (b:=L.lg) Z8) (lg6 xs y)) (c7.held _ _ gm3) few gl3 rfl k
section
variable {G H H':Hp}{L:LoL}{A:LoA}
theorem xg (lo:Lo K t G H L A (n+1)) (hn:n<30) (U:j<A.many) (J:H L.lg=some ZJr) (le:lx.length<=n) (hr:H r=some (.tup (.str s :: .int j::zs))) (sk:PyData.strOk s=true) (xo:XsO H zs) (k:∀ H',But [L.lg] H H'->Lo K t G H' L A (n+1)->Q .non H') :
  wA t [Zk,Z0r,ZEK] H Q E:=by
 obtain⟨q,T0,hq,hT,th,tw,O⟩:=lo.at U
 obtain⟨es,Y,W⟩:=th.done
 refine⟨L.p,L.dx,L.dz,A.many,A.ord,L.lt,L.lg,L.D,j,r,q.p,_,lx,q.dx,_,q.ha,q.dn,q.wr,_,es,rfl,lo.c.self,lo.c.tl,J,Z1,O,th.self,Y,λ e pl H' b h Z=>k H' b ?_⟩
 have tk:∀ c xs,H c=some ZU->H' c=some ZU:=λ c xs z=>b _ _ (by rw[FL];exact fO z J Z8) z
 have V:ZFg:=b.mono λ x F=>FW _ F
 have hp:=b _ _ (by rw[FL];exact fO lo.c.self J Z8) lo.c.self
 refine⟨lo.c.uH V hp h Z0N,lo.wf,lo.lk,⟨_,h,by rw[FQ,F6];lia,λ x F=>?_⟩,lo.tw,lo.bn,lo.m2,lo.fr,lo.pts,lo.snd⟩
 rcases FY.mp F with F|F
 ·obtain⟨xs,h',_,r'⟩:=lo.lg
  rw[J] at h';cases h'
  exact(r' x F).keep tk
 ·rw[FL] at F
  exact⟨e,r,pl,s,j,zs,F,Z,tk _ _ hr,U,sk,xo.keep tk⟩
theorem uP (hn:n<30) (hj:j<A.many) (st:Stp G G1 H H1 L A L A1) (U:Lo K t G1 H1 L A1 (n+1)) (O:∃ xs,H1 L.lg=some ZQ/\xs.length<=n) (hr:H1 r=none) (sk:PyData.strOk s=true) (xo:XsO H1 zs) (k:∀ G' H' Y W,Stp G G' H H' L A Y W->Lo K t G' H' Y W (n+1)->Q .non H') :
  wA t [Zk,Z0r,ZEK] (upd H1 r (.tup (.str s :: .int j::zs))) Q E:=by
 obtain⟨xs,h1,h2⟩:=O
 have J:cG H1 (upd H1 r (.tup (.str s :: .int j::zs))):=cG.new hr
 refine xg (U.same J) hn (by rw[st.em];exact hj) (J _ _ h1) h2 cy sk (xo.keep λ _ _ e=>J _ _ e) λ Z b3 V=>k G1 Z L A1 (st.trans ((Stp.of J).trans ⟨rfl,b3.mono λ b F=>?_,rfl,rfl,λ _ _=>Z9U,λ b F=>.inl F,λ _ _ _ _=>rfl,λ _ _ _ _ _ z=>z⟩)) V
 rw[FL] at F
 exact LoL.gj (by rw[F];simp)
end
def Bf (K:W.Frag) (t:Adr):Sp:=λ vs H Q _=>∃ G L A n,∃ j:Nat,vs=[Zk,Z0r]/\Lo K t G H L A n/\n<30/\j<A.many/\∀ G' H' L' A',Stp G G' H H' L A L' A'->Lo K t G' H' L' A' (n+1)->Q .non H'
theorem C3 (T:ZJ):dk P w K mg base ZM 6 t.f_dn t.fd_dn ["self","hand"] (Bf K t):=by
 refine T.F_dn.okN AH Z6 (λ W A outer s H vs Q E F h=>?_)
 ·obtain⟨G,L,A,n,j,rfl,_⟩:=h;rfl
 ·obtain⟨G,L,A,n,j,rfl,lo,V,O,k⟩:=h
  refine⟨_,(cD (cR (cW ZX T.cl_Loom T.me_aq ZMW ZAu T.b_aq .nil cH Zf))
   (cD (cR (cW ZX T.cl_Loom T.me_bo ZMD ZAu T.b_bo .nil cH (cF ZI (cF iU (cF iU cC)))))
   (cE (cR (cW ZX T.cl_Loom T.me_be ZD6 ZAu T.b_be .nil cH Z8t))))),?_⟩
  refine tm ZL lo.c.self rfl Zd (ir lo.c O ?_)
  refine tm ZL lo.c.self rfl (.cons ZL (.cons .c ZAy)) ⟨G,L,A,n,j,.non,.non,none,rfl,lo,V,O,.own,λ G' H' Y st J U=>?_⟩
  refine⟨_,rfl,L.p,L.dx,_,rfl,J.c.self,rfl,_,rfl,_,rfl,by show 2<=sizeLine;decide,λ r F=>?_⟩
  exact uP (E:=λ _ _ _=>False) V O st J U F (by decide +kernel) Z0N k
def BN (K:W.Frag) (t:Adr):Sp:=λ vs H Q _=>∃ G L A n,∃ j:Nat,∃ b l,vs=[Zk,Z0r,Zj]/\Lo K t G H L A n/\n<30/\j<A.many/\H b=some Z9c/\l∈A.A.po/\l.nm∉A.A.ta.map (·.1)/\l.to=j/\(A.ord=true->∀ l'∈A.A.po,l'.nm∉A.A.ta.map (·.1)->l'.nm.1=l.nm.1->l'.to=l.to->cd3 l.nm<=cd3 l'.nm) /\
 ∀ G' H' L' A',Stp G G' H H' L A L' A'->Lo K t G' H' L' A' (n+1)->Q .non H'
theorem Ci (T:ZJ):dk P w K mg base ZM 6 t.f_dp t.fd_dp ["self","hand","name"] (BN K t):=by
 refine T.F_dp.okN Bs Z6 ZB
 ·obtain⟨G,L,A,n,j,b,l,rfl,_⟩:=h;rfl
 ·obtain⟨G,L,A,n,j,b,l,rfl,lo,nn,hj,hb,hl,nt,to,od,k⟩:=h
  refine⟨_,(cD Z0B
   (cD (dy (eE (dN (cW ZX T.cl_Loom T.me_bn (EX (K:=K) T) Z0 T.b_bn .nil cH Z7m)))
    ZAm
    da)
   (cD (cR (cW ZX T.cl_Loom T.me_bo ZMD Z0 T.b_bo .nil cH (cF ZI (cF ZV (cF (cY Zm (fu Z1H Z2 ZV ZA) cJ ZA) cC)))))
   (cE (cR (cW ZX T.cl_Loom T.me_be ZD6 Z0 T.b_be .nil cH (cF ZI (cF (eC (cF gY Z7m)) cC)))))))),?_⟩
  obtain⟨e0,he0,k0⟩:=ZHi
  have small:∀ l∈A.A.po,Small l.nm:=λ l hl=>by
   obtain⟨r1,r2,r3,r4,r5,r6,_⟩:=ZLJ
   have:=ZA4
   exact Z5C
  refine Z0v
  refine tm ZL lo.c.self rfl Z5s ⟨G,L.p,L.dx,L.dz,A.many,A.ord,L.lt,L.lg,L.D,A.A,j,b,l.nm,e0,rfl,lo.c.self,lo.c.di,hb,he0,lo.wf.wn,by rw[k0,to],(ZEq).mpr ⟨l,hl,rfl,by rw[k0],by rw[k0],nt⟩,ZIR,λ m hm=>?_,λ ot m hm=>?_,λ H1 s1=>ZEn⟩
  ·obtain⟨l',hl',rfl,_⟩:=ZBg
   exact small l' hl'
  ·obtain⟨l',hl',rfl,z1,z2,z3⟩:=ZBg
   exact od ot l' hl' z3 (by rw[z1,k0]) (by rw[z2,k0])
  have lo1:=Z2m
  have v1:eu (A.A.po.map λ l=>(Z0i,Z0P)) (Z0i)=some (Z6k):=eS (λ l:fk=>Z0i) ZAc ZAi hl
  refine tm ZL lo1.c.self rfl (vs:=[Z0r,Zj,Z86]) (.cons ZL (.cons ZL (.cons (λ Q' q'=>⟨_,rfl,L.p,_,L.dx,_,_,rfl,lo1.c.self,T.cl_Loom,T.na_co,rfl,_,rfl,L.D.po,Z6k,rfl,.inr ⟨_,Z0i,b,.inl lo1.c.di.po,rfl,ZIN,v1.symm⟩,l.adr,_,1,Z86,rfl,rfl,SqT.of (lo1.c.held _ _ (lo1.c.di.lets l hl)),rfl,q'⟩) .nil))) ?_
  refine⟨G,L,A,n,j,Zj,Z86,some l.nm,rfl,lo1,nn,hj,.use ZIN hl nt to,λ G' H' A' st lo' lg'=>?_⟩
  refine⟨_,rfl,L.p,L.dx,_,rfl,lo'.c.self,rfl,_,rfl,_,rfl,_,rfl,by show 3<=sizeLine;decide,λ r hr=>?_⟩
  exact uP (E:=λ _ _ _=>False) nn hj Z70 lo' lg' hr (by decide +kernel) (.inr ⟨b,l.nm,rfl,(Z70).bt _ _ (lo.c.sL hb) hb⟩) k
def Bj (K:W.Frag) (t:Adr):Sp:=λ vs H Q _=>∃ G L A n,∃ j:Nat,vs=[Zk,Z0r]/\Lo K t G H L A n/\n<30/\j<A.many/\∀ G' H' L' A',Stp G G' H H' L A L' A'->Lo K t G' H' L' A' (n+1)->Q .non H'
theorem Lo.lS {G H H':Hp}{L:LoL}{A:LoA}{n j m:Nat}{q q':ThL}{T0 T':ThA}(lo:Za) (hq:L.ths[j]? = some q) (hT:A.ths[j]? = some T0) (b1:ZD1) (th1:Th K t G H' q' T') (pe:q'.p=q.p) (fr:∀ b∈q'.ad,b∈q.ad\/H b=none) (nm:n<=m) (tw:∀ T,TWf n T->TWf m T) (tw1:TWf m T') (ev1:T'.evs=T0.evs) (pt1:T'.pt (A.b j)) :
  Lo K t G H' { L with ths:=Z6R} { A with ths:=Z4X} m/\Stp G G H H' L A { L with ths:=Z6R} { A with ths:=Z4X}:=by
 have hj:=Z9K
 have bn:=lo.bn
 obtain⟨lx,lgx,ll,lr⟩:=lo.lg
 refine⟨⟨lo.c.lS hq ⟨Z3F,th1.held,λ _ _ e=>ZAa⟩ b1 th1 pe fr,lo.wf.mono λ x=>vK hT (by rw[ev1];exact Z9) x,lo.lk.evs (xE hT ev1),⟨lx,b1 _ _ (λ z=>lo.c.tb j q hq _ z Z8) lgx,Z6h,λ x hx=>(lr x hx).keep λ b xs e=>b1 _ _ (λ z=>lo.c.sL e (LoL.gD hq z)) e⟩,λ T1 hT1=>?_,⟨by show A.A.po.length<=_;omega,bn.2⟩,lo.m2,lo.fr,λ i T1 h1=>?_,lo.snd⟩,lo.c.stp hq hT b1 fr λ p _=>by rw[ev1]⟩
 ·rcases List.mem_or_eq_of_mem_set hT1 with y|y
  ·exact tw _ (lo.tw T1 y)
  ·rw[y];exact tw1
 ·rcases fz hj h1 with ⟨rfl,rfl⟩|⟨_,z⟩
  ·exact pt1
  ·exact ZLK
theorem Ds (T:ZJ):dk P w K mg base ZM 3 t.f_cu t.fd_cu ["self","hand"] (Bj K t):=by
 refine T.F_cu.okN Bh Z6 ZB
 ·obtain⟨G,L,A,n,j,rfl,_⟩:=h;rfl
 ·obtain⟨G,L,A,n,j,rfl,lo,nn,hj,k⟩:=h
  refine⟨_,(cD Z0B
   (cD (cR (cX Z2_ T.cl_Thread T.me_bj (Dw (K:=K) T) Z0 T.b_bj .nil cH))
   (cE (cR (cW ZX T.cl_Loom T.me_be ZD6 Z0 T.b_be .nil cH Z8t))))),?_⟩
  obtain⟨q,T0,hq,hT,th,tw,hqs⟩:=ZGH
  refine Z0v
  refine tm ZDE th.self rfl .nil ⟨G,q,T0,rfl,th,by have:=tw.wn;omega,λ H1 b1 th1=>?_⟩
  obtain⟨tw1,ev1,pt1⟩:=tw.wrote
  obtain⟨lo1,st⟩:=lo.lS hq hT (b1.mono λ b hb=>by unfold ThL.ad;simp only[FR,FU,Ga] at hb ⊢;exact hb.imp id .inr) th1 rfl (λ b hb=>ZJU) (HZ n) (λ T h=>h.more) tw1 ev1 (pt1 _ Z45)
  have hset:L.ths.set j q=L.ths:=by
   obtain⟨lt,rfl⟩:=ZCv
   exact ZC7
  rw[hset] at lo1 st
  obtain⟨lx,lgx,ll,_⟩:=lo.lg
  have lg1:H1 L.lg=some ZJr:=b1 _ _ (λ z=>lo.c.tb j q hq L.lg (by unfold ThL.ad;simp only[FR,FU,Ga] at z ⊢;exact z.imp id .inr) Z8) lgx
  refine⟨_,rfl,L.p,L.dx,_,rfl,lo1.c.self,rfl,_,rfl,_,rfl,by show 2<=sizeLine;decide,λ r hr=>?_⟩
  exact uP (E:=λ _ _ _=>False) nn hj st lo1 ⟨lx,lg1,ll⟩ hr (by decide +kernel) Z0N k
def Dj (K:W.Frag) (t:Adr):Sp:=λ vs H Q _=>∃ G L A n,vs=[Zk]/\Lo K t G H L A n/\∀ l H',cG H H'->H l=none->H' l=some (.lst (iV (A.ths.map λ T=>(T.evs.length:Int))))->Q Zg H'
theorem Eg (T:ZJ):dk P w K mg base ZM 2 t.f_ce t.fd_ce ["self"] (Dj K t):=by
 refine T.F_ce.okN EH Z6 Z0I
 ·obtain⟨G,L,A,n,rfl,_⟩:=h;rfl
 ·obtain⟨G,L,A,n,rfl,lo,k⟩:=h
  refine⟨_,(cE (cQ (dH ["self","thread"] 1 rfl Z1W (λ _ _ _ _ _=>⟨(cN (i:=1) (show List.Nodup (["self","thread"]:ZT) from by decide +kernel) rfl Z5),dG,(cX ZI T.cl_Thread T.me_cd ZDD Z0 T.b_cd .nil cH)⟩)))),?_⟩
  have m2:=lo.m2
  have Z:(Z03).length=A.many:=by rw[FO,lo.c.len1]
  refine⟨_,rfl,L.p,_,L.dx,_,_,rfl,lo.c.self,T.cl_Loom,T.na_bx,rfl,L.lt,rfl,⟨_,ZKV⟩,dU (xs:=Z03) Z1 λ acc F=>⟨λ i J ys H2=>ys=iV ((A.ths.take i).map λ T=>(T.evs.length:Int))/\H2 acc=some Zb/\cG H H2/\∃ o,J=[ZE,o],Z4G,?_,?_,?_⟩⟩
  ·rintro i J ys H2 hi ⟨rfl,_,O,_⟩
   refine⟨SqL.of (O _ _ lo.c.tl),?_⟩
   unfold iV
   rw[FO,FO,Gu];lia
  ·rintro i v J ys H2 hi U ⟨rfl,W,O,o,rfl⟩
   obtain⟨q,hq,rfl⟩:∃ q,L.ths[i]? = some q/\v=.ref q.p:=by
    rw[FP] at U
    cases e:L.ths[i]? with
    | none=>rw[e] at U;cases U
    | some q=>rw[e] at U;cases U;exact Z9u
   obtain⟨T0,hT⟩:∃ T0,A.ths[i]? = some T0:=⟨_,FJ (by rw[lo.c.len2];lia)⟩
   have th:=lo.c.th i q T0 hq hT
   obtain⟨es,hd,Y⟩:=th.done
   dsimp only[eh,gy]
   refine fC ⟨_,rfl,q.p,q.dx,_,rfl,Z5f,rfl,q.p,q.dx,_,q.ha,q.dn,q.wr,_,es,rfl,Z5f,SqL.of (O _ _ hd),W,Z26⟩
   ·rw[GQ,hT,Y.1]
    unfold iV
    simp
   ·rw[Z3R];exact O _ _ e
  ·rintro J ys H2 ⟨rfl,W,O,o,rfl⟩
   rw[JC (by rw[Z,lo.c.len2];exact Z9)] at W
   exact k acc H2 O F W
noncomputable def g8 (H:Hp) (v:V):Nm3:=match v with
 | .ref b=>match H b with
  | some (.tup [.int x,.int y,.int z])=>(x,y,z)
  | _=>(0,0,0)
 | _=>(0,0,0)
def hX (H:Hp) (v:V) (n:Nm3):Prop:=∃ b,v=.ref b/\H b=some Z3K
theorem hX.of (h:ZCi):g8 H v=n:=by
 obtain⟨b,rfl,e⟩:=h
 unfold g8 nV at *
 simp only[e]
theorem hX.same (s:Z1t) (h:ZCi):hX H' v n:=let ⟨b,e,z⟩:=h;⟨b,e,s _ _ z⟩
theorem hX.rp (h:ZCi):Rp K H v (ZAS):=by
 obtain⟨b,rfl,e⟩:=h
 exact rF e
theorem hX.rk (h:ZCi):rk3 H v=cd3 n:=by
 obtain⟨b,rfl,e⟩:=h
 unfold rk3
 unfold nV at e
 simp only[e]
 rfl
structure NmL (H:Hp) (ls:List V) (ns:List Nm3):Prop where
 eq:ls.map (g8 H)=ns
 all:∀ v∈ls,hX H v ZMY
theorem NmL.nil:NmL H [] []:=⟨rfl,λ v F=>by cases F⟩
theorem NmL.len (h:Z5g):ls.length=ns.length:=by rw[<- h.eq,FO]
theorem NmL.same {H H':Hp}{J:Z04}{ns:Z1L}(s:Z1t) (h:ZH9):NmL H' J ns:=by
 have e:∀ v∈J,g8 H' v=g8 H v:=λ v F=>((ZA6).same s).of
 exact⟨by rw[<- h.eq];exact GD e,λ v F=>by rw[e v F];exact(ZA6).same s⟩
theorem NmL.keep (s:∀ b xs,H b=some ZU->H' b=some ZU) (h:ZH9):NmL H' J ns:=by
 have z:∀ v∈J,hX H' v ZMY:=λ v F=>let ⟨b,e,z⟩:=ZA6;⟨b,e,s _ _ z⟩
 have e:∀ v∈J,g8 H' v=g8 H v:=λ v F=>(z v F).of
 exact⟨by rw[<- h.eq];exact GD e,λ v F=>by rw[e v F];exact z v F⟩
theorem NmL.snoc (h:Z5g) (i:ZCi):NmL H (ls++[v]) (ns++[n]):=by
 refine⟨by rw[F0,h.eq,Ih,i.of],λ u F=>?_⟩
 rcases FY.mp F with F|F
 ·exact h.all u F
 ·rw[FL] at F
  rw[F,i.of];exact i
theorem NmL.perm (h:Z5g) (p:ls'.Perm ls):NmL H ls' (ZKB)/\(ZKB).Perm ns:=⟨⟨rfl,λ v F=>h.all v (p.mem_iff.mp F)⟩,by rw[<- h.eq];exact p.map _⟩
theorem NmL.rp:∀ {F:List V}{ns:List Nm3},NmL H F ns->eF K H F (ns.map λ n=>ZAS)
 | [],_,h=>by
  have:=h.eq
  cases this
  exact .nil
 | v::F,_,h=>by
  have e:=h.eq
  rw[<- e,Gq,Gq]
  exact .cons (h.all v FZ).rp (NmL.rp ⟨rfl,λ u J=>h.all u (FW _ J)⟩)
theorem NmL.small (h:ZH9) (O:∀ n∈ns,Small n):∀ v∈J,Nm H v:=λ v F=>by
 obtain⟨b,e,z⟩:=ZA6
 have:=O ZMY (by rw[<- h.eq];exact F4 F)
 exact⟨b,_,_,_,e,z,this⟩
theorem NmL.yl (h:Z5g):ls.map (rk3 H)=ns.map cd3:=by
 rw[<- h.eq,GJ]
 exact GD λ v F=>(ZA6).rk
theorem NmL.sorted (h:Z5g) (p:ls'.Perm ls) (V:ls'.Pairwise λ u v=>rk3 H u<rk3 H v):∃ F,NmL H ls' F/\F.Perm ns/\tL F:=by
 obtain⟨h1,h2⟩:=h.perm p
 refine⟨_,h1,h2,?_⟩
 unfold tL
 rw[Hj]
 refine V.imp_of_mem λ{a b} J O U=>?_
 rw[<- (h1.all a J).rk,<- (h1.all b O).rk];exact U
theorem jK {ns:Z1L}(F:ns.Nodup) (J:∀ n∈ns,Small n):(ns.map cd3).Nodup:=by
 unfold List.Nodup at F ⊢
 rw[Hj]
 exact F.imp_of_mem λ{a b} O U V e=>V (qW (J a O) (J b U) e)
noncomputable def DiA.free (A:DiA):ZJ4:=A.po.filter λ l=>decide (l.nm∉A.ta.map (·.1))
theorem Lo.small (lo:Za) (J:n<=30):∀ l∈A.A.po,Small l.nm:=λ l F=>by
 obtain⟨O,U,V,W,Y,Z,_⟩:=lo.wf.rg l F
 have:=ZA4
 exact Z5C
theorem sO {ta:List (Nm3×Int)}{n:Nm3}(nt:(ta.map (·.1)).Nodup):(eu (ta.map λ e=>(Z1J,Z0Y)) Z6L).isSome=decide (n∈ta.map (·.1)):=by
 by_cases h:n∈ta.map (·.1)
 ·obtain⟨e,he,rfl⟩:=F2.mp h
  rw[eS (λ e:Nm3×Int=>Z1J) Z4_ (fH (f:=λ x:Nm3×Int=>x.1) eZ nt) he]
  simp[h]
 ·rw[gL (λ e:Nm3×Int=>Z1J) Z4_ λ e he z=>h (by rw[<- eZ _ _ z];exact ZJI)]
  simp[h]
noncomputable def ug (n:Nat×Nat×Nat):Int:=reduceHash (Builtin.Tuple.tupleHashOf [hashInt (n.1:Int),hashInt (n.2.1:Int),hashInt (n.2.2:Int)])
noncomputable def L3:List (Nat×Nat×Nat):=(List.range 5).flatMap λ h=>(List.range 31).flatMap λ p=>(List.range 3).map λ k=>(h,p,k)
noncomputable def qL (x:Int):List Int->Bool
 | []=>true
 | y::l=>!(x == y) && qL x l
noncomputable def mY:List Int->Bool
 | []=>true
 | x::l=>qL x l && mY l
theorem uu:mY (L3.map ug)=true:=by decide +kernel
theorem oE:∀ {l:List Int},qL x l=true->x∉l
 | [],_,h=>by cases h
 | y::l,h,m=>by
  unfold qL at h
  rw[Hg] at h
  rcases FR.mp m with e|m
  ·rw[e] at h;simp at h
  ·exact oE h.2 m
theorem mz:∀ {l:List Int},mY l=true->l.Nodup
 | [],_=>.nil
 | x::l,h=>by
  unfold mY at h
  rw[Hg] at h
  exact GX.mpr ⟨oE h.1,mz h.2⟩
theorem uo (a:h<5) (b:p<31) (c:k<3):(h,p,k)∈L3:=by
 unfold L3
 exact Jz.mpr ⟨h,HL.mpr a,Jz.mpr ⟨p,HL.mpr b,F2.mpr ⟨k,HL.mpr c,rfl⟩⟩⟩
theorem ja {F W:Type}{f:F->W}{l:List F}(V:(ZFM).Nodup) {a b:F}(J:a∈l) (O:b∈l) (e:f a=f b):a=b:=by
 obtain⟨i,hi,rfl⟩:=Gm J
 obtain⟨j,U,rfl⟩:=Gm O
 have:i=j:=(Ht (l:=ZFM) (by simpa using hi) V).mp (by rw[FP,FP,FJ hi,FJ U];exact Z36)
 subst this;rfl
def InR (n:Nm3):Prop:=0<=n.1/\n.1<5/\0<=n.2.1/\n.2.1<31/\0<=n.2.2/\n.2.2<3
theorem zU {w:World}{a b:Nm3}(ha:InR a) (hb:InR b) (e:hT w (nk a)=hT w (nk b)):a=b:=by
 obtain⟨x,y,z⟩:=a
 obtain⟨Y,Z,z'⟩:=b
 obtain⟨F,a2,J,a4,O,a6⟩:=ha
 obtain⟨U,b2,V,b4,W,b6⟩:=hb
 dsimp only at F a2 J a4 O a6 U b2 V b4 W b6
 obtain⟨x,rfl⟩:=Gr F
 obtain⟨y,rfl⟩:=Gr J
 obtain⟨z,rfl⟩:=Gr O
 obtain⟨Y,rfl⟩:=Gr U
 obtain⟨Z,rfl⟩:=Gr V
 obtain⟨z',rfl⟩:=Gr W
 have e':ug (x,y,z)=ug (Y,Z,z'):=e
 have:=ja (mz uu) ZMP ZMP e'
 cases this
 rfl
theorem jb {w:World}{ns:Z1L}(F:ns.Nodup) (h:∀ n∈ns,InR n):(ns.map λ n=>hT w Z6L).Nodup:=by
 unfold List.Nodup at F ⊢
 rw[Hj]
 exact F.imp_of_mem λ{a b} J O U e=>U (zU (h a J) (h b O) e)
theorem Lo.inR (lo:Za) (J:n<=30):∀ l∈A.A.po,InR l.nm:=λ l F=>by
 obtain⟨O,U,V,W,Y,Z,_⟩:=lo.wf.rg l F
 have:=ZA4
 have:=lo.m2
 exact⟨Z1,Z1,Z1,Z1,Z1,Z1⟩
def C6 (K:W.Frag) (t:Adr):Sp:=λ vs H Q _=>∃ G L A n,vs=[Zk]/\Lo K t G H L A n/\n<=30/\∀ l ls ns H',cG H H'->H l=none->H' l=some Z4d->NmL H' ls ns->tL ns->ns.Perm (A.A.free.map (·.nm))->Q Zg H'
theorem DF (T:ZJ):dk P w K mg base ZM 1 t.f_dd t.fd_dd ["self"] (C6 K t):=by
 refine T.F_dd.okN Cu Z6 ZB
 ·obtain⟨G,L,A,n,rfl,_⟩:=h;rfl
 ·obtain⟨G,L,A,n,rfl,lo,hn,k⟩:=h
  refine⟨_,(cE (cQ (dB (qt (K:=K)) rfl T.no_sorted kh (cF (xG (H₀:=H) (dH ["self","name"] 1 rfl (sh Z2) (λ _ _ _ _ _=>⟨(cN (i:=1) (show List.Nodup (["self","name"]:ZT) from by decide +kernel) rfl Z5),(iD ZFr),ZI⟩))) cC)))),?_⟩
  have bn:=lo.bn
  refine⟨_,rfl,L.p,_,L.dx,_,_,rfl,lo.c.self,T.cl_Loom,T.na_co,rfl,L.D.po,_,rfl,.inl ⟨lo.c.di.po,λ o=>?_⟩⟩
  obtain⟨x1,x2,x3,x4,x5⟩:=lo.c.di.nes
  have poI:L.D.po∈L.D.own A.A:=by unfold DiL.own;simp
  have pne:L.p≠L.D.po:=λ y=>lo.c.nd1 (b:=L.p) Z8 (by rw[y];exact poI)
  refine sY (by rw[FO];lia) λ acc hacc=>⟨λ i σ2 ys H2=>(∃ ns,NmL H2 ys ns/\ns=((A.A.po.take i).filter λ l=>decide (l.nm∉A.A.ta.map (·.1))).map (·.nm))/\H2 acc=some Zb/\(∀ b u,b≠L.D.po->H b=some u->H2 b=some u)/\H2 L.D.po=some (.frz o (.dT (A.A.po.map λ l=>(Z0i,Z0P))))/\∃ ov,σ2=[ZE,ov],?_,?_,?_,?_⟩
  ·have na:acc≠L.D.po:=λ y=>by rw[y,cy] at hacc;cases hacc
   refine⟨⟨[],.nil,rfl⟩,cy,λ b u nb e=>?_,by rw[cz (Ne.symm na),cy],_,rfl⟩
   rw[cz (cB (o:=u) (by rw[cz nb];exact e) hacc),cz nb];exact e
  ·rintro i σ2 ys H2 hi ⟨⟨ns,nl,en⟩,e2,kp,hp2,_⟩
   refine⟨hp2,?_⟩
   rw[nl.len,en,FO]
   exact Gd Z9r (by rw[Gu];lia)
  ·rintro i b kk v σ2 ys H2 hi hx hb ⟨⟨ns,nl,en⟩,e2,kp,hp2,ov,rfl⟩
   obtain⟨l,hl,rfl⟩:∃ l,A.A.po[i]? = some l/\kk=nk l.nm:=by
    rw[FP] at hx
    cases e:A.A.po[i]? with
    | none=>rw[e] at hx;cases hx
    | some l=>rw[e] at hx;cases hx;exact⟨l,rfl,rfl⟩
   have isn:hX H2 Zj l.nm:=ZBC
   refine⟨_,rfl,_,rfl,L.p,_,L.dx,_,_,rfl,kp _ _ pne lo.c.self,T.cl_Loom,T.na_da,rfl,L.D.ta,_,rfl,.inr ⟨_,Z0i,b,.inl (kp _ _ (Ne.symm x1) lo.c.di.ta),rfl,hb,rfl⟩,_,rfl,?_⟩
   rw[sO lo.wf.nt]
   have stepE:((A.A.po.take (i+1)).filter λ l=>decide (l.nm∉A.A.ta.map (·.1))).map (·.nm)=ns++(if l.nm∈A.A.ta.map (·.1) then [] else [l.nm]):=by
    rw[GQ,hl,Hy,F0,<- en]
    congr 1
    by_cases z:l.nm∈A.A.ta.map (·.1)
    ·rw[ZJC]
     simp[Ir,z]
    ·rw[ZJD]
     have z':decide (l.nm∉A.A.ta.map (·.1))=true:=by simpa using z
     show List.map _ (List.filter _ [l])=_
     rw[Ir,FX z']
     rfl
   by_cases z:l.nm∈A.A.ta.map (·.1)
   ·refine eA (by simpa using z) (Nx.mk hi ⟨⟨ns,nl,by rw[stepE,FX z,Gx]⟩,e2,kp,hp2,_,rfl⟩)
   ·refine gE (by simpa using z) ⟨_,rfl,e2,Nx.mk hi ⟨⟨ns++[l.nm],?_,by rw[stepE,FV z]⟩,cy,λ c u nc e=>?_,?_,_,rfl⟩⟩
    ·exact(nl.snoc isn).keep λ c xs e=>by rw[cz (λ y=>by rw[y,e2] at e;cases e)];exact e
    ·have na:c≠acc:=λ y=>by
      rw[y] at e nc
      rw[ZH0] at hacc
      rw[e] at hacc;cases hacc
     rw[cz na];exact kp c u nc e
    ·rw[cz (λ y=>by rw[y,e2] at hp2;cases hp2)];exact hp2
  ·rintro σ2 ys H2 ⟨⟨ns,nl,en⟩,e2,kp,hp2,_⟩
   rw[FO,Ho] at en
   have na:acc≠L.D.po:=λ y=>by rw[y,cy] at hacc;cases hacc
   have s3:cG H (upd H2 L.D.po (.dT (A.A.po.map λ l=>(Z0i,Z0P)))):=λ b u e=>by
    by_cases y:b=L.D.po
    ·rw[y,cy]
     rw[y,lo.c.di.po] at e;exact e
    ·rw[cz y];exact kp b u y e
   have nl3:NmL (upd H2 L.D.po (.dT (A.A.po.map λ l=>(Z0i,Z0P)))) ys ns:=nl.keep λ c xs e=>by rw[cz (λ y=>by rw[y,hp2] at e;cases e)];exact e
   have sub:∀ n∈ns,Small n:=λ n hn'=>by
    rw[en] at hn'
    obtain⟨l,hl,rfl⟩:=F2.mp hn'
    exact lo.small hn l (GG.mp hl).1
   have ndn:ns.Nodup:=by
    rw[en]
    exact lo.wf.nd.sublist ((List.filter_sublist).map _)
   refine⟨L.D.po,o,_,hp2,(λ o' v' y=>by rw[lo.c.di.po] at y;cases y),acc,ys,rfl,SqL.of (by rw[cz na];exact e2),?_,nl3.small sub,by rw[nl3.yl];exact jK ndn sub,λ l ls' hl p so=>?_⟩
   ·rw[nl.len,en,FO]
    have:=GU (λ l:fk=>decide (l.nm∉A.A.ta.map (·.1))) A.A.po
    lia
   ·obtain⟨ns',n1,n2,n3⟩:=nl3.sorted p so
    have sl:=cG.new (o:=.lst ls') hl
    exact k l ls' ns' _ (s3.trans sl) (s3.free hl) cy (n1.same sl) n3 (by rw[en] at n2;exact n2)
def BC (K:W.Frag) (t:Adr):Sp:=λ vs H Q _=>∃ G L A n,vs=[Zk]/\Lo K t G H L A n/\n<=30/\∀ l H',cG H H'->H l=none->H' l=some (.dT (A.A.po.map λ l=>(Z0i,Z0P)))->Q Zg H'
theorem yP (T:ZJ):dk P w K mg base ZM 1 t.f_aj t.fd_aj ["self"] (BC K t):=by
 refine T.F_aj.okN CD Z6 (λ O A outer s H vs Q E V h=>?_)
 ·obtain⟨G,L,A,n,rfl,_⟩:=h;rfl
 ·obtain⟨G,L,A,n,rfl,lo,U,k⟩:=h
  refine Z4h
  refine⟨_,rfl,L.p,_,L.dx,_,_,rfl,lo.c.self,T.cl_Loom,T.na_co,rfl,L.D.po,_,rfl,.inl lo.c.di.po,?_,λ l F=>ZKD⟩
  rw[GJ]
  have:=jb (w:=w) lo.wf.nd λ n J=>by
   obtain⟨l,F,rfl⟩:=F2.mp J
   exact lo.inR U l F
  rw[GJ] at this
  exact this
def B3 (K:W.Frag) (t:Adr):Sp:=λ vs H Q _=>∃ G L A n,vs=[Zk]/\Lo K t G H L A n/\n<=30/\∀ l H',cG H H'->H l=none->H' l=some (.dT (A.A.ta.map λ e=>(Z1J,Z0Y)))->Q Zg H'
theorem yp (T:ZJ):dk P w K mg base ZM 1 t.f_ak t.fd_ak ["self"] (B3 K t):=by
 refine T.F_ak.okN Cd Z6 (λ O A outer s H vs Q E W h=>?_)
 ·obtain⟨G,L,A,n,rfl,_⟩:=h;rfl
 ·obtain⟨G,L,A,n,rfl,lo,V,k⟩:=h
  refine Z4h
  refine⟨_,rfl,L.p,_,L.dx,_,_,rfl,lo.c.self,T.cl_Loom,T.na_da,rfl,L.D.ta,_,rfl,.inl lo.c.di.ta,?_,λ l F=>ZKD⟩
  rw[GJ]
  have:=jb (w:=w) lo.wf.nt λ n J=>by
   obtain⟨e,U,rfl⟩:=F2.mp J
   obtain⟨l,F,z,_⟩:=lo.lk.tp e U
   rw[<- z];exact lo.inR V l F
  rw[GJ] at this
  exact this
def ThN (t:Adr) (H:Hp) (q:ThL) (s:ZH8):Prop:=∃ s',s=some s'/\H q.p=some (.ins t.c_Thread q.dx (thF s' q.ha q.dn q.wr 0))/\H q.dn=some (Zr)/\H q.wr=some ZJs/\q.dn≠q.wr
theorem ThN.keep (h:ThN t H q s) (k:∀ c u,c∈q.ad->H c=some u->H' c=some u):ThN t H' q s:=
 let ⟨s',e,h1,h2,F,n⟩:=h
 ⟨s',e,k _ _ (by unfold ThL.ad;simp) h1,k _ _ (by unfold ThL.ad;simp) h2,k _ _ (by unfold ThL.ad;simp) F,n⟩
theorem ThN.some (h:ThN t H q s) (F:c∈q.ad):H c≠none:=by
 obtain⟨s',e,h1,h2,J,n⟩:=h
 unfold ThL.ad at F
 simp only[FR,FU,Ga] at F
 rcases F with rfl|rfl|rfl
 ·rw[h1];simp
 ·rw[h2];simp
 ·rw[J];simp
theorem iW (J:H p=some z) (F:H l=none):(∀ c u,c≠p->H c=some u->upd (upd H l o) p o' c=some u)/\upd (upd H l o) p o' l=some o/\l≠p:=by
 have n:l≠p:=λ e=>by rw[e,J] at F;cases F
 exact⟨λ c u O e=>by rw[cz O,Z3R];exact e,by rw[cz n,cy],n⟩
noncomputable def vX (m:Nat) (o:Bool) (fr:Z04) (sts:Zc) (hbs:List iP):LoA:=⟨m,o,fr,(Z7R).map λ x=>⟨x.1,x.2,[],[0],0⟩,⟨[],[],[]⟩,λ _=>0⟩
def AF (K:W.Frag) (t:Adr):Sp:=λ vs H Q _=>∃ (G:Hp) (p dx dz a b:Addr) (m:Nat) (has:List Addr) (hbs:List iP) (o:Bool) (sts:List Int) (a' b' m' c':Int),vs=[Zs,Z1v,Z_,Zj,Z6Z]/\H p=some (ZFj)/\cG G H/\G p=none/\SqL K H a (iV sts)/\sts.length=m/\SqL K H b (Z5a)/\has.length=m/\hbs.length=m /\
 (∀ (i:Nat) ha hb,has[i]? = some ha->hbs[i]? = some hb->jE t G ha hb)/\Clo G "_law_does" "_law_program.<locals>._law_does" qz ["_law_many","_law_cell","_law_a","_law_b","_law_m"] dz Z0k/\0<m'/\(-(2 ^ 64)<a'/\a'<2 ^ 64)/\(-(2 ^ 64)<b'/\b'<2 ^ 64)/\2<=m/\m<=5 /\
 ∀ (H':Hp) (L:LoL),L.p=p->(∀ c∈L.own (vX m o [.int m,.int c',.int a',.int b',.int m'] sts hbs),c=p\/H c=none)->(∀ c u,c≠p->H c=some u->H' c=some u)->Lo K t G H' L Z6x 0->Q .non H'
theorem Ce (T:ZJ):dk P w K mg base ZM 3 t.f_de t.fd_de ["self","does","starts","habits","ordered"] (AF K t):=by
 refine T.F_de.okN Bz Z6 ZB
 ·obtain⟨G,p,dx,dz,a,b,m,has,hbs,o,sts,a',b',m',c',rfl,_⟩:=h;rfl
 ·obtain⟨G,p,dx,dz,a,b,m,has,hbs,o,sts,a',b',m',c',rfl,hp,sG,gp,ha,l0,hb,l1,l2,hab,clo,f1,f2,f3,m0,m1,k⟩:=h
  refine⟨_,(cD Z2C
   (cD (dj (K:=K) ZX Z2Y rfl)
   (cD (dj (K:=K) ZX Z1F rfl)
   (cD (dj (K:=K) ZX (dH ["self","does","starts","habits","ordered","start","habit"] 2 rfl (zr (K:=K) rfl T.no_zip (cF ZV Z2s)) (λ _ _ _ _ _=>⟨(eJ (K:=K) (n:=2) rfl (dh (cN (i:=5) (show List.Nodup (["self","does","starts","habits","ordered","start","habit"]:ZT) from by decide +kernel) rfl Z5) (dh (cN (i:=6) (show List.Nodup (["self","does","starts","habits","ordered","start","habit"]:ZT) from by decide +kernel) rfl Z5) eM))),dG,(fI T.mk_Thread (DE (K:=K) T) Z0 rfl T.mg_Thread T.b_cc .nil cH (cF Z1O Z1r))⟩)) rfl)
   (cD Z65
   (cD Z1Q
   (cD Z1Q
   (cE Z1Q)))))))),?_⟩
  refine⟨_,rfl,_,rfl,p,_,dx,_,rfl,hp,T.cl_Loom,T.na_dj,Z4,?_⟩
  refine⟨_,rfl,a,_,rfl,.inl (iA hp ha),_,rfl,p,_,dx,_,rfl,cy,T.cl_Loom,T.na_dk,by show 1<1000;decide,?_⟩
  rw[gv,eB,l0]
  refine⟨_,rfl,_,rfl,p,_,dx,_,rfl,cy,T.cl_Loom,T.na_bw,by show 2<1000;decide,?_⟩
  rw[gv]
  have hp3:upd H p (HO.ins t.c_Loom dx (cL "ordered" (Z6Z) (cL "many" (Z1M) (cL "does" (Z1v) [])))) p=some (HO.ins t.c_Loom dx (cL "ordered" (Z6Z) (cL "many" (Z1M) (cL "does" (Z1v) [])))):=cy
  have ha3:=iA (fs':=cL "ordered" (Z6Z) (cL "many" (Z1M) (cL "does" (Z1v) []))) hp ha
  have hb3:=iA (fs':=cL "ordered" (Z6Z) (cL "many" (Z1M) (cL "does" (Z1v) []))) hp hb
  have k3:∀ c u,c≠p->H c=some u->upd H p (HO.ins t.c_Loom dx (cL "ordered" (Z6Z) (cL "many" (Z1M) (cL "does" (Z1v) [])))) c=some u:=λ c u nc e=>by rw[ZH0];exact e
  have f3':∀ c,upd H p (HO.ins t.c_Loom dx (cL "ordered" (Z6Z) (cL "many" (Z1M) (cL "does" (Z1v) [])))) c=none->H c=none:=λ c e=>by
   by_cases y:c=p
   ·rw[y,cy] at e;cases e
   ·rw[cz y] at e;exact e
  generalize upd H p (HO.ins t.c_Loom dx (cL "ordered" (.bl o) (cL "many" (.int m) (cL "does" (.ref dz) []))))=H3 at hp3 ha3 hb3 k3 f3' ⊢
  refine⟨_,rfl,_,rfl,a,b,_,_,rfl,ha3,hb3,vW (xs:=iV sts) (ys:=Z5a) (by rw[eB];lia) (by rw[eB,FO,l1,l0]) λ acc hacc=>⟨λ i σ2 zs H2=>(∃ Ls:List ThL,Ls.length=i/\zs=Ls.map Z8l/\H2 acc=some Z5P/\cG H3 H2/\(∀ (j:Nat) q,Ls[j]? = some q->ThN t H2 q sts[j]? /\ has[j]? = some q.ha/\∀ c∈q.ad,H3 c=none/\c≠acc)/\∀ (j l:Nat) q r,Ls[j]? = some q->Ls[l]? = some r->j≠l->∀ x∈q.ad,x∉r.ad)/\∃ o1 o2,σ2=[Z7S,some Z1v,Z4y,Z9y,some Z6Z,o1,o2],?_,?_,?_,?_⟩⟩
  ·exact⟨⟨[],rfl,rfl,cy,ZAB,(λ j q e=>by simp at e),(λ j l q r e=>by simp at e)⟩,_,_,rfl⟩
  ·rintro i σ2 zs H2 hi ⟨⟨Ls,len,rfl,_,s2,_⟩,_⟩
   exact⟨s2.seq ha3,s2.seq hb3,by rw[FO];lia⟩
  ·rintro i x y pz σ2 zs H2 hi hx hy npz ⟨⟨Ls,len,rfl,e2,s2,hth,td⟩,o1,o2,rfl⟩
   obtain⟨s0,rfl,hs0⟩:=iO hx
   obtain⟨hx',hax,rfl⟩:∃ h',has[i]? = some h'/\y=.ref h':=by
    rw[FP] at hy
    cases e:has[i]? with
    | none=>rw[e] at hy;cases hy
    | some h'=>rw[e] at hy;cases hy;exact⟨h',rfl,rfl⟩
   refine⟨pz,_,rfl,ZIu,rfl,_,_,rfl,_,_,rfl,rfl,?_⟩
   dsimp only[gy]
   refine fC ⟨_,rfl,_,rfl,λ x dxx nx ndx ndd=>⟨x,dxx,s0,hx',rfl,cy,λ dn wr H5 hdn hwr ndw hH5=>Z2k⟩⟩
   have sz:cG H2 Z2Q:=cG.new npz
   have si:cG Z2Q (upd (upd Z2Q dxx Z4w) x (.ins t.c_Thread dxx [])):=cG.ins nx ndx
   have x0:H2 x=none:=sz.free nx
   have dn0:H2 dn=none:=sz.free (si.free hdn)
   have wr0:H2 wr=none:=sz.free (si.free hwr)
   have ndx':dn≠x:=λ e=>by rw[e,cy] at hdn;cases hdn
   have nwx':wr≠x:=λ e=>by rw[e,cy] at hwr;cases hwr
   have s5:cG H2 H5:=λ c u e=>by
    rw[hH5 c,FV (cB e x0),FV (cB e dn0),FV (cB e wr0)]
    exact si _ _ (sz _ _ e)
   have nacc:∀ c,H2 c=none->c≠acc:=λ c e y=>by rw[y,e2] at e;cases e
   have newF:∀ c∈ThL.ad ⟨x,dxx,hx',dn,wr⟩,H2 c=none:=λ c hc=>by
    unfold ThL.ad at hc
    simp only[FR,FU,Ga] at hc
    rcases hc with rfl|rfl|rfl
    ·exact x0
    ·exact dn0
    ·exact wr0
   refine⟨s5 _ _ e2,Nx.mk hi ⟨⟨Ls++[⟨x,dxx,hx',dn,wr⟩],by rw[FQ,len];rfl,by rw[F0];rfl,cy,λ c u e=>?_,λ j q hq=>?_,λ j l q r hq hr jl y hy hz=>?_⟩,_,_,rfl⟩⟩
   ·rw[ZBR];exact s5 _ _ Z8q
   ·rcases eQ hq with hq|⟨rfl,rfl⟩
    ·obtain⟨t1,t4,t5⟩:=ZBv
     exact⟨t1.keep λ c u hc e=>by rw[cz (t5 c hc).2];exact ZLD,t4,t5⟩
    ·refine⟨⟨s0,by rw[len];exact hs0,?_,?_,?_,ndw⟩,by rw[len];exact hax,λ c hc=>⟨s2.free (newF c hc),nacc c (newF c hc)⟩⟩
     ·rw[cz (nacc _ x0),hH5,Z1X]
     ·rw[cz (nacc _ dn0),hH5,FV ndx',Z1X]
     ·rw[cz (nacc _ wr0),hH5,FV nwx',FV (Ne.symm ndw),Z1X]
   ·rcases eQ hq with hq|⟨e1,rfl⟩<;>rcases eQ hr with hr|⟨e2',rfl⟩
    ·exact td j l q r hq hr jl y hy hz
    ·exact(ZBv).1.some hy (newF y hz)
    ·exact(hth l r hr).1.some hz (newF y hy)
    ·exact jl (e1.trans e2'.symm)
  ·rintro σ2 zs H2 ⟨⟨Ls,len,rfl,e2,s2,hth,td⟩,_⟩
   rw[eB,l0] at len
   have hp4:=s2 _ _ hp3
   refine⟨_,rfl,p,_,dx,_,rfl,hp4,T.cl_Loom,T.na_bx,by show 3<1000;decide,?_⟩
   have hp4':upd H2 p (.ins t.c_Loom dx (cL "threads" (Zt) (cL "ordered" (Z6Z) (cL "many" (Z1M) (cL "does" (Z1v) []))))) p=some (.ins t.c_Loom dx (cL "threads" (Zt) (cL "ordered" (Z6Z) (cL "many" (Z1M) (cL "does" (Z1v) []))))):=cy
   have k4:∀ c u,c≠p->H2 c=some u->upd H2 p (.ins t.c_Loom dx (cL "threads" (Zt) (cL "ordered" (Z6Z) (cL "many" (Z1M) (cL "does" (Z1v) []))))) c=some u:=λ c u nc e=>by rw[ZH0];exact e
   generalize upd H2 p (.ins t.c_Loom dx (cL "threads" (.ref acc) (cL "ordered" (.bl o) (cL "many" (.int m) (cL "does" (.ref dz) [])))))=H4 at hp4' k4 ⊢
   refine⟨Z4,λ lg hlg=>⟨_,rfl,p,_,dx,_,rfl,by rw[cz (cB hp4' hlg)];exact hp4',T.cl_Loom,T.na_ds,by show 4<1000;decide,?_⟩⟩
   obtain⟨k5,e5,ne5⟩:=iW (o:=Zr) (o':=.ins t.c_Loom dx (cL "log" (Z7d) (cL "threads" (Zt) (cL "ordered" (Z6Z) (cL "many" (Z1M) (cL "does" (Z1v) [])))))) hp4' hlg
   have hp5:upd (upd H4 lg Zr) p (.ins t.c_Loom dx (cL "log" (Z7d) (cL "threads" (Zt) (cL "ordered" (Z6Z) (cL "many" (Z1M) (cL "does" (Z1v) [])))))) p=some _:=cy
   generalize upd (upd H4 lg (.lst [])) p (.ins t.c_Loom dx (cL "log" (.ref lg) (cL "threads" (.ref acc) (cL "ordered" (.bl o) (cL "many" (.int m) (cL "does" (.ref dz) []))))))=H5 at k5 e5 hp5 ⊢
   refine λ po hpo=>⟨_,rfl,p,_,dx,_,rfl,by rw[cz (cB hp5 hpo)];exact hp5,T.cl_Loom,T.na_co,by show 5<1000;decide,?_⟩
   obtain⟨k6,e6,ne6⟩:=iW (o:=Z2W) (o':=.ins t.c_Loom dx (cL "posted" (Z7c) (cL "log" (Z7d) (cL "threads" (Zt) (cL "ordered" (Z6Z) (cL "many" (Z1M) (cL "does" (Z1v) []))))))) hp5 hpo
   have hp6:upd (upd H5 po Z2W) p (.ins t.c_Loom dx (cL "posted" (Z7c) (cL "log" (Z7d) (cL "threads" (Zt) (cL "ordered" (Z6Z) (cL "many" (Z1M) (cL "does" (Z1v) []))))))) p=some _:=cy
   generalize upd (upd H5 po (.dT [])) p (.ins t.c_Loom dx (cL "posted" (.ref po) (cL "log" (.ref lg) (cL "threads" (.ref acc) (cL "ordered" (.bl o) (cL "many" (.int m) (cL "does" (.ref dz) [])))))))=H6 at k6 e6 hp6 ⊢
   refine λ ta hta=>⟨_,rfl,p,_,dx,_,rfl,by rw[cz (cB hp6 hta)];exact hp6,T.cl_Loom,T.na_da,by show 6<1000;decide,?_⟩
   obtain⟨k7,e7,ne7⟩:=iW (o:=Z2W) (o':=.ins t.c_Loom dx (cL "taken" (Z55) (cL "posted" (Z7c) (cL "log" (Z7d) (cL "threads" (Zt) (cL "ordered" (Z6Z) (cL "many" (Z1M) (cL "does" (Z1v) [])))))))) hp6 hta
   have hp7:upd (upd H6 ta Z2W) p (.ins t.c_Loom dx (cL "taken" (Z55) (cL "posted" (Z7c) (cL "log" (Z7d) (cL "threads" (Zt) (cL "ordered" (Z6Z) (cL "many" (Z1M) (cL "does" (Z1v) [])))))))) p=some _:=cy
   generalize upd (upd H6 ta (.dT [])) p (.ins t.c_Loom dx (cL "taken" (.ref ta) (cL "posted" (.ref po) (cL "log" (.ref lg) (cL "threads" (.ref acc) (cL "ordered" (.bl o) (cL "many" (.int m) (cL "does" (.ref dz) []))))))))=H7 at k7 e7 hp7 ⊢
   refine λ wy hwy=>⟨_,rfl,p,_,dx,_,rfl,by rw[cz (cB hp7 hwy)];exact hp7,T.cl_Loom,T.na_dl,by show 7<1000;decide,?_⟩
   obtain⟨k8,e8,ne8⟩:=iW (o:=Z2W) (o':=.ins t.c_Loom dx (cL "ways" (ZJM) (cL "taken" (Z55) (cL "posted" (Z7c) (cL "log" (Z7d) (cL "threads" (Zt) (cL "ordered" (Z6Z) (cL "many" (Z1M) (cL "does" (Z1v) []))))))))) hp7 hwy
   have hp8:upd (upd H7 wy Z2W) p (.ins t.c_Loom dx (cL "ways" (ZJM) (cL "taken" (Z55) (cL "posted" (Z7c) (cL "log" (Z7d) (cL "threads" (Zt) (cL "ordered" (Z6Z) (cL "many" (Z1M) (cL "does" (Z1v) []))))))))) p=some (.ins t.c_Loom dx (loF dz m o acc lg Z1T)):=cy
   generalize upd (upd H7 wy (.dT [])) p (.ins t.c_Loom dx (cL "ways" (.ref wy) (cL "taken" (.ref ta) (cL "posted" (.ref po) (cL "log" (.ref lg) (cL "threads" (.ref acc) (cL "ordered" (.bl o) (cL "many" (.int m) (cL "does" (.ref dz) [])))))))))=H8 at k8 e8 hp8 ⊢
   have u78:=k8
   have u68:∀ c u,c≠p->H6 c=some u->H8 c=some u:=λ c u n e=>k8 c u n (k7 c u n e)
   have u58:∀ c u,c≠p->H5 c=some u->H8 c=some u:=λ c u n e=>u68 c u n (k6 c u n e)
   have u48:∀ c u,c≠p->H4 c=some u->H8 c=some u:=λ c u n e=>u58 c u n (k5 c u n e)
   have u28:∀ c u,c≠p->H2 c=some u->H8 c=some u:=λ c u n e=>u48 c u n (k4 c u n e)
   have uH8:∀ c u,c≠p->H c=some u->H8 c=some u:=λ c u n e=>u28 c u n (s2 _ _ (k3 c u n e))
   have none2:∀ c,c≠p->(H4 c=none\/H5 c=none\/H6 c=none\/H7 c=none)->H2 c=none:=λ c n z=>by
    cases e:H2 c with
    | none=>rfl
    | some u=>
     have z4:=k4 c u n e
     have z5:=k5 c u n z4
     have z6:=k6 c u n z5
     have z7:=k7 c u n z6
     rcases z with z|z|z|z
     ·rw[z4] at z;cases z
     ·rw[z5] at z;cases z
     ·rw[z6] at z;cases z
     ·rw[z7] at z;cases z
   have lg2:=none2 lg ne5 (.inl hlg)
   have po2:=none2 po ne6 (.inr (.inl hpo))
   have ta2:=none2 ta ne7 (.inr (.inr (.inl hta)))
   have wy2:=none2 wy ne8 (.inr (.inr (.inr hwy)))
   have toH:∀ c,H2 c=none->H c=none:=λ c e=>f3' c (s2.free e)
   have accP:acc≠p:=λ y=>by rw[y,hp3] at hacc;cases hacc
   have thP:∀ {j:Nat} {q:ThL},Ls[j]? = some q->∀ c∈q.ad,c≠p/\H2 c≠none:=λ hq c hc=>⟨(λ y=>by
    have:=((hth _ _ hq).2.2 c hc).1
    rw[y,hp3] at this
    cases this),(hth _ _ hq).1.some hc⟩
   have acc2:H2 acc≠none:=by rw[e2];simp
   have pt:po≠ta:=λ y=>by rw[y] at e6;rw[hta] at e6;cases e6
   have pw:po≠wy:=λ y=>by have:=k7 _ _ ne6 e6;rw[y,hwy] at this;cases this
   have tw':ta≠wy:=λ y=>by rw[y] at e7;rw[hwy] at e7;cases e7
   have nn2:∀ c,H2 c≠none->c≠lg/\c≠po/\c≠ta/\c≠wy:=λ c e=>⟨λ y=>e (by rw[y];exact lg2),λ y=>e (by rw[y];exact po2),λ y=>e (by rw[y];exact ta2),λ y=>e (by rw[y];exact wy2)⟩
   have ownI:∀ c∈LoL.own ⟨p,dx,dz,acc,lg,Z1T,Ls⟩ Z6x,c=p\/H c=none:=λ c hc=>by
    rcases LoL.eY hc with hc|⟨j,q,hq,hc⟩|hc
    ·have hc':c∈[p,acc,lg]:=hc
     simp only[FR,FU,Ga] at hc'
     rcases hc' with h|h|h
     ·exact Z5z
     ·rw[h];exact .inr (f3' _ hacc)
     ·rw[h];exact .inr (toH _ lg2)
    ·exact .inr (f3' _ ((ZBv).2.2 c hc).1)
    ·have hc':c∈[po,ta,wy]++([]:Zq):=hc
     simp only[Gx,FR,FU,Ga] at hc'
     rcases hc' with h|h|h
     ·rw[h];exact .inr (toH _ po2)
     ·rw[h];exact .inr (toH _ ta2)
     ·rw[h];exact .inr (toH _ wy2)
   have gnI:∀ c∈LoL.own ⟨p,dx,dz,acc,lg,Z1T,Ls⟩ Z6x,G c=none:=λ c hc=>by
    rcases ownI c hc with h|h
    ·rw[h];exact gp
    ·exact sG.free h
   have held:cG G H8:=λ c u e=>uH8 c u (cB e gp) (sG _ _ e)
   have evs0:∀ (i:Nat) (T:ThA),((Z7R).map λ x=>(⟨x.1,x.2,[],[0],0⟩:ThA))[i]? = some T->∃ s h,sts[i]? = some s/\hbs[i]? = some h/\T=⟨s,h,[],[0],0⟩:=λ i T hT=>by
    rw[FP] at hT
    obtain⟨x,hx,rfl⟩:=Gs.mp hT
    obtain⟨h1,h2⟩:=List.getElem?_zip_eq_some.mp hx
    exact⟨_,_,h1,h2,rfl⟩
   have noev:∀ {h q:Nat} {T:ThA} {E:EvA},((Z7R).map λ x=>(⟨x.1,x.2,[],[0],0⟩:ThA))[h]? = some T->T.evs[q]? = some E->False:=λ hT hE=>by
    obtain⟨_,_,_,_,rfl⟩:=evs0 _ _ hT
    simp at hE
   refine k H8 Z9v rfl ownI uH8 ⟨⟨hp8,u28 _ _ accP e2,λ i q T hq hT=>?_,len,by show ((Z7R).map _).length=m;rw[FO,List.length_zip,l0,l2,Nat.min_self],⟨[],u58 _ _ ne5 e5⟩,⟨u68 _ _ ne6 e6,u78 _ _ ne7 e7,e8,(λ e he=>by cases he),(λ l hl=>by cases hl),held,?_,λ c hc=>gnI c (LoL.i5 hc)⟩,clo,held,gnI,td,λ j q hq x hx hy=>?_,(nn2 acc acc2).1⟩,⟨.nil,.nil,(λ l hl=>by cases hl),.nil,(λ e he=>by cases he),(λ e he=>by cases he),(λ l hl=>by cases hl),(λ e he=>by cases he)⟩,⟨(λ l hl=>by cases hl),λ _ _ _ _ ⟨T,E,h1,h2,_⟩=>(noev h1 h2).elim,(λ e he=>by cases he),λ _ _ _ ⟨T,E,h1,h2,_⟩=>(noev h1 h2).elim⟩,⟨[],u58 _ _ ne5 e5,Nat.le_refl _,(λ x hx=>by cases hx)⟩,λ T hT=>?_,⟨Nat.le_refl _,Nat.le_refl _⟩,⟨m0,m1⟩,⟨a',b',m',c',rfl,f1,f2,f3⟩,λ j T hT=>?_,(λ l hl=>by cases hl)⟩
   ·obtain⟨⟨s,t0,t1,t2,t3,t6⟩,t4,_⟩:=hth i q hq
    obtain⟨s',h,hs,hb',rfl⟩:=evs0 i T hT
    rw[hs] at t0;cases t0
    have gth:∀ c∈q.ad,G c=none:=λ c hc=>gnI c (LoL.gD (L:=Z9v) hq hc)
    have pn:=λ c hc=>(thP hq c hc).1
    unfold ThL.ad at gth pn
    exact⟨u28 _ _ (pn _ Z8) t1,hab i q.ha h t4 hb',⟨[],u28 _ _ (pn _ Ze) t2,rfl,(λ j e A he=>by simp at he)⟩,u28 _ _ (pn _ (by simp)) t3,held,gth _ (by simp),gth _ (by simp),gth _ (by simp),t6⟩
   ·show ([po,ta,wy]++([]:Zq)).Nodup
    simp only[Gx,GX,FR,FU,Ga,Hz,Jp,IT,and_true]
    exact ZDk
   ·have hy':x∈[p,acc,lg]:=hy
    simp only[FR,FU,Ga] at hy'
    rcases hy' with h|h|h
    ·exact(thP hq x hx).1 h
    ·exact((ZBv).2.2 x hx).2 h
    ·exact(thP hq x hx).2 (by rw[h];exact lg2)
   ·obtain⟨i,hi⟩:=HA (show T∈(Z7R).map _ from hT)
    obtain⟨s,h,_,_,rfl⟩:=evs0 i T hi
    refine⟨Ze,Jy _ _,λ z hz=>?_,Z9U,Z9U,ZLn,ZLn⟩
    rw[FL] at hz
    rw[hz];exact⟨Z9U,Z9U⟩
   ·obtain⟨s,h,_,_,rfl⟩:=evs0 j T hT
    exact⟨0,FL.mpr rfl,Z0N⟩
noncomputable def cO (ln:Zc) (h:Int):Int:=(ln[h.toNat]?).getD 0
theorem ji (h0:0<=h) (h1:h<ln.length):atI Z5m h=some ZIC:=by
 obtain⟨i,rfl⟩:=Gr h0
 have hi:i<ln.length:=Z1
 have e:(iV ln)[i]? = some (.int ZEa):=by
  unfold iV cO
  rw[FP,GB,ZCw];rfl
 exact dW e
def Ek (K:W.Frag):Sp:=λ vs H Q _=>∃ a b ln n,vs=[Z_,Zj]/\SqL K H a Z5m/\H b=some Z3K/\0<=n.1/\n.1<ln.length/\Q (.bl (decide (n.2.1<=cO ln n.1))) H
theorem ze (T:ZJ):dk P w K mg base ZM 1 t.f_ay t.fd_ay ["line","name"] (Ek K):=by
 refine T.F_ay.okN D9 Z6 (λ J A outer s H vs Q E V h=>?_)
 ·obtain⟨a,b,U,n,rfl,_⟩:=h;rfl
 ·obtain⟨a,b,U,n,rfl,O,F,h0,h1,k⟩:=h
  refine⟨_,(cE (cQ (eX kU Z0y (cY ZR ZX Z0y ZA) Z0Z))),?_⟩
  exact⟨_,rfl,b,nV n,1,.int n.2.1,rfl,rfl,SqT.of F,rfl,_,rfl,_,rfl,b,nV n,0,.int n.1,rfl,rfl,SqT.of F,rfl,a,_,n.1,_,rfl,rfl,O,ji h0 h1,_,_,rfl,rfl,k⟩
def EV (K:W.Frag):Sp:=λ vs H Q _=>∃ a ln u pl,vs=[Z_,.int u,ZD2]/\SqL K H a Z5m/\0<=u/\u<ln.length/\Q (.bl (decide (pl<=cO ln u))) H
theorem EG (T:ZJ):dk P w K mg base ZM 1 t.f_az t.fd_az ["line","user","place"] (EV K):=by
 refine T.F_az.okN DY Z6 (λ F A outer s H vs Q E V h=>?_)
 ·obtain⟨a,O,u,U,rfl,_⟩:=h;rfl
 ·obtain⟨a,O,u,U,rfl,J,h0,h1,k⟩:=h
  refine⟨_,(cE (cQ (eX kU ZV ZI0 Z0Z))),?_⟩
  exact⟨_,rfl,_,rfl,_,rfl,a,_,u,_,rfl,rfl,J,ji h0 h1,_,_,rfl,rfl,k⟩
theorem Lo.ta (lo:Za) (V:n<=30):A.A.ta.length<=60/\∀ e∈A.A.ta,Small e.1:=by
 have:=lo.bn
 have O:=kM (b:=A.A.po.map (·.nm)) lo.wf.nt λ z W=>by
  obtain⟨e,F,rfl⟩:=F2.mp W
  obtain⟨Y,J,y,_⟩:=lo.lk.tp e F
  rw[<- y];exact F4 J
 rw[FO,FO] at O
 refine⟨Z1,λ e F=>?_⟩
 obtain⟨l,U,y,_⟩:=lo.lk.tp e F
 rw[<- y];exact lo.small V l U
def x6 (T:ThA) (ns:Zc):Prop:=ns.Pairwise (· < ·)/\∀ y,y∈ns↔T.pt y
def yj (K:W.Frag) (t:Adr):Sp:=λ vs H Q _=>∃ G L A n,∃ j:Nat,∃ T,vs=[Zk,Z0r]/\Lo K t G H L A n/\n<=30/\A.ths[j]? = some T/\∀ l ns H',cG H H'->H l=none->H' l=some ZHY->x6 T ns->Q Zg H'
theorem wq (T:ZJ):dk P w K mg base ZM 3 t.f_cf t.fd_cf ["self","hand"] (yj K t):=by
 refine T.F_cf.okN AW Z6 (λ a1 A outer s H vs Q E Z h=>?_)
 ·obtain⟨G,L,A,n,j,T0,rfl,_⟩:=h;rfl
 ·obtain⟨G,L,A,n,j,T0,rfl,lo,hn,W,k⟩:=h
  refine⟨_,(cD (cR (cW ZX T.cl_Loom T.me_aq ZMW (Z.mono Z4) T.b_aq .nil cH Zf))
   (cE (cQ (cX Z2_ T.cl_Thread T.me_bd (Fo (K:=K) T) (Z.mono Z4) T.b_bd .nil cH)))),?_⟩
  have Y:j<A.many:=by have:=(FK.mp W).1;rw[lo.c.len2] at this;exact this
  obtain⟨q,T1,hq,J,th,F,U⟩:=lo.at Y
  rw[W] at J;cases J
  obtain⟨w0,ws,O,hw⟩:=F.hd
  have en:=F.en
  have dn:=F.dn
  have wn:=F.wn
  rw[O] at wn
  refine tm ZL lo.c.self rfl Zd (ir lo.c Y ?_)
  refine tm (gA T lo.c rfl rfl U) th.self rfl .nil ⟨q.p,q.dx,_,q.ha,q.dn,q.wr,_,w0,ws,rfl,th.self,by rw[<- O];exact th.fR,λ y hy=>?_,Z1,F.d0,Z1,λ l ns H' s nl el pw nd V=>k l ns H' s nl el ⟨(pw.and nd).imp λ h=>Z1,λ y=>?_⟩⟩
  ·have:=F.rg y (by rw[O];exact hy)
   lia
  ·rw[V,ThA.pY O hw];exact or_comm
def AlO (T:ThA) (st:Bool) (ns:Zc):Prop:=ns.Pairwise (· < ·)/\∀ y,y∈ns↔T.pt y\/(st=true/\y=T.evs.length)
structure Lls (H:Hp) (l:Addr) (qs:List Addr) (xss:List (List Int)):Prop where
 self:H l=some Z8y
 len:qs.length=xss.length
 nd:qs.Nodup
 ne:l∉qs
 at':∀ (i:Nat) q xs,qs[i]? = some q->xss[i]? = some xs->H q=some ZBm
theorem ij:atI (xs++[x]) (-1)=some x:=by
 unfold atI ixN
 rw[ZEF,FX (by rw[FQ,F6];lia)]
 show (xs++[x])[((-1:Int)+((xs++[x]).length:Int)).toNat]? = some x
 rw[show ((-1:Int)+((xs++[x]).length:Int)).toNat=xs.length by rw[FQ,F6];lia]
 rw[Gh Z9,Hs];rfl
theorem ip:iV (xs++[x])=iV xs++[.int x]:=j3.symm
theorem fS (h:xs≠[]):∃ ys y,xs=ys++[y]:=⟨_,_,(List.dropLast_concat_getLast h).symm⟩
theorem qU:∀ {ns:List Int}{a b:Int},ns.Pairwise (· < ·)->(∀ z∈ns,a<=z/\z<b)->(ns.length:Int)<=max 0 (b-a)
 | [],_,_,_,_=>by simp;lia
 | x::ns,a,b,p,h=>by
  have J:=Ie.mp p
  have O:=ZGM
  have:=qU (a:=x+1) (b:=b) J.2 λ z F=>⟨by have:=J.1 z F;lia,(h z (FW _ F)).2⟩
  rw[GF];lia
theorem Lls.snoc (h:Lls H l F xss) (hs:H' l=some (.lst ((F++[q]).map V.ref))) (U:H' q=some ZBm) (Z:q∉F) (Y:l≠q) (W:∀ c∈F,∀ u,H c=some u->H' c=some u):Lls H' l (F++[q]) (xss++[xs]):=by
 refine⟨hs,by rw[FQ,FQ,h.len];rfl,GP.mpr ⟨h.nd,Z8,λ a O b J z=>?_⟩,λ z=>?_,λ i c ys h1 h2=>?_⟩
 ·rw[FL] at J
  exact Z (by rw[<- J,<- z];exact O)
 ·rcases FY.mp z with z|z
  ·exact h.ne z
  ·exact Y (FL.mp z)
 ·rcases Jr i F.length with g|g|g
  ·rw[Gw g] at h1
   rw[Gw (by rw[<- h.len];exact g)] at h2
   exact W c (FT h1) _ (h.at' i c ys h1 h2)
  ·rw[ZLw,g,Hs] at h1
   rw[Gh (by rw[<- h.len];lia),<- h.len,g,Hs] at h2
   cases h1;cases h2;exact U
  ·rw[GK (by rw[FQ,F6];lia)] at h1;cases h1
theorem AlO.top (F:Z53) (p:x6 T ns):∃ (ys:List Int) (y:Int),ns=ys++[y]/\y<=T.evs.length/\(∀ z∈ys,z<y):=by
 obtain⟨J,V,O,_⟩:=F.hd
 obtain⟨ys,y,rfl⟩:=fS (Ig ((p.2 J).mpr ⟨J,by rw[O];exact FZ,Z0N⟩))
 exact⟨ys,y,rfl,(F.pt ((p.2 y).mp Z8)).2,λ z U=>(Hd.mp p.1).2.2 z U y Ze⟩
def Bt (K:W.Frag) (t:Adr):Sp:=λ vs H Q _=>∃ G L A n f fs,vs=[Zk,Z7H]/\Lo K t G H L A n/\n<=30/\SqL K H f ZAg /\
 ∀ l qs xss H',cG H H'->H l=none->(∀ q∈qs,H q=none)->Lls H' l qs xss->xss.length=A.many->(∀ (i:Nat) T xs,A.ths[i]? = some T->xss[i]? = some xs->AlO T (decide ((i:Int)∉fs)) xs)->Q Zg H'
theorem B8 (T:ZJ):dk P w K mg base ZM 4 t.f_ba t.fd_ba ["loom","fallen"] (Bt K t):=by
 refine T.F_ba.okN nJ Z6 (λ ar A outer s H vs Q E hr h=>?_)
 ·obtain⟨G,L,A,n,f,fs,rfl,_⟩:=h;rfl
 ·obtain⟨G,L,A,n,f,fs,rfl,lo,hn,hf,k⟩:=h
  refine⟨_,(cD (cV (i:=2) nJ.nd rfl Z5 Z2g)
   (cD (dI PassesOwn.never rfl (gs (K:=K) rfl T.no_enumerate (cF (cX ZX T.cl_Loom T.me_ce (Eg (K:=K) T) Z0 T.b_ce .nil cH) cC)) (eJ (K:=K) rfl (dh (cN (i:=3) nJ.nd rfl Z5) (dh (cN (i:=4) nJ.nd rfl Z5) eM)))
    (cD (cV (i:=5) nJ.nd rfl Z5 (cW ZX T.cl_Loom T.me_cf (wq (K:=K) T) Z0 T.b_cf .nil cH Z2s))
   (cD (dy (PW.pt (jw (cZ ZFt Z1E ZI (by with_unfolding_all rfl)) (iw (cZ yh (cY (cP (K:=K)) (pv 5) (q9 ng cJ) (λ _ _=>rfl)) (pv 4) (df _)))))
    (cE (cR (dQ (K:=K) F5 Gj Gi dA Z1O Z3a)))
    da)
   (cE (cR (dQ (K:=K) F5 Gj Gi dA ZV Z4c))))))
   Z3z)),?_⟩
  refine sq λ an aj=>?_
  have m2:=lo.m2
  refine⟨Z4,λ Y a9=>?_⟩
  have s1:=cG.new (o:=Zr) a9
  have e1:=cy (H:=H) (a:=Y) (o:=Zr)
  generalize upd H Y (.lst [])=H1 at s1 e1 ⊢
  refine(sn aj λ au ak=>?_:an _ _ _)
  refine⟨_,rfl,L.p,L.dx,_,rfl,(Z2m).c.self,rfl,G,L,A,n,rfl,Z2m,λ lp H2 s2 ae aa=>?_⟩
  have am:Y≠lp:=λ z=>by rw[<- z,e1] at ae;cases ae
  have a5:(iV (A.ths.map λ T=>(T.evs.length:Int))).length=A.many:=by unfold iV;rw[FO,FO,lo.c.len2]
  refine⟨lp,_,rfl,SqL.of aa,fM (xs:=iV (A.ths.map λ T=>(T.evs.length:Int)))
   (λ i σ H'=>∃ U F,U.length=i/\Lls H' Y U F/\cG H H'/\H' lp=some (.lst (iV (A.ths.map λ T=>(T.evs.length:Int))))/\(∀ q∈U,H q=none/\q≠lp)/\(∀ (j:Nat) T xs,A.ths[j]? = some T->F[j]? = some xs->AlO T (decide ((j:Int)∉fs)) xs)/\∃ o3 o4 o5,σ=[ZE,Z32,ZCc,o3,o4,o5])
   ⟨[],[],rfl,⟨s2 _ _ e1,rfl,.nil,Z8,(λ i q xs e=>by simp at e)⟩,s1.trans s2,aa,(λ q hq=>by cases hq),(λ j T xs _ e=>by simp at e),_,_,_,rfl⟩ ?_ ?_ ?_⟩
  ·rintro i σ H' _ ⟨U,F,_,_,_,e,_⟩
   exact ZCl
  ·rintro i x p σ H3 hx np ⟨U,F,a2,ls,s3,a1,fr,a6,o3,o4,o5,rfl⟩
   have hi:i<A.many:=by have:=Z0s;rw[a5] at this;exact this
   obtain⟨T0,hT⟩:∃ T0,A.ths[i]? = some T0:=⟨_,FJ (by rw[lo.c.len2];exact hi)⟩
   obtain rfl:x=.int T0.evs.length:=by
    unfold iV at hx
    rw[FP,FP,hT] at hx
    exact(Option.some.inj hx).symm
   have tw:=Z1m
   have s4:=cG.new (o:=.tup [Z08,Z1y]) np
   have a3:=Z7U
   refine ZS
   generalize upd H3 p (.tup [.int i,.int T0.evs.length])=H4 at s4 a3 ⊢
   have ab:=lo.same a3
   refine⟨_,rfl,L.p,L.dx,_,rfl,ab.c.self,rfl,_,rfl,G,L,A,n,i,T0,rfl,ab,hn,hT,λ O ns H5 s5 af Z po=>?_⟩
   have ai:=Z7T
   have ah:=a3.trans s5
   obtain⟨ys,y,ey,av,ap⟩:=AlO.top tw po
   have ad:H O=none:=a3.free af
   have J:H3 O=none:=s4.free af
   have ag:O∉U:=λ z=>by
    obtain⟨j,hj,e⟩:=Gm z
    have:=ls.at' j O _ (by rw[<- e];exact ZJF) (FJ (by rw[<- ls.len];exact hj))
    rw[J] at this;cases this
   have W:Y≠O:=λ z=>by rw[<- z,ls.self] at J;cases J
   have a4:O≠lp:=λ z=>by rw[z,a1] at J;cases J
   have a8:∀ (H6:Hp) (xs:List Int),(∀ c u,c≠O->H5 c=some u->H6 c=some u)->H6 O=some ZBm->AlO T0 (decide ((i:Int)∉fs)) xs ->
     j5 (V.ref Y) [V.ref O] H6 λ _ H7=>∃ U F,U.length=i+1/\Lls H7 Y U F/\cG H H7/\H7 lp=some (.lst (iV (A.ths.map λ T=>(T.evs.length:Int))))/\(∀ q∈U,H q=none/\q≠lp)/\(∀ (j:Nat) T xs,A.ths[j]? = some T->F[j]? = some xs->AlO T (decide ((j:Int)∉fs)) xs) /\
       ∃ o3 o4 o5,([ZE,Z32,ZCc,Z6d,some Z1y,some (.ref O)]:St)=[ZE,Z32,ZCc,o3,o4,o5]:=λ H6 xs kp e6 ok=>by
    have k6:∀ c u,c≠O->H3 c=some u->H6 c=some u:=λ c u nc e=>kp c u nc (ai _ _ e)
    refine⟨Y,ZFT,.ref O,rfl,rfl,k6 _ _ W ls.self,GI (show (ZFT).length<=5 by rw[FO];lia) Z4,U++[O],F++[xs],by rw[FQ,a2];rfl,?_,λ c u e=>?_,?_,λ q hq=>?_,λ j T ao h1 h2=>?_,_,_,_,rfl⟩
    ·refine ls.snoc (by rw[cy,F0];rfl) (by rw[cz ZAr];exact e6) ag W λ c hc u e=>?_
     rw[cz (λ z=>ls.ne (by rw[<- z];exact hc))]
     exact k6 c u (λ z=>ag (by rw[<- z];exact hc)) e
    ·rw[cz (cB e a9)]
     exact kp c u (cB e ad) (ah _ _ e)
    ·rw[cz (Ne.symm am)]
     exact k6 _ _ (Ne.symm a4) a1
    ·rcases FY.mp hq with hq|hq
     ·exact fr q hq
     ·rw[FL] at hq
      rw[hq];exact⟨ad,a4⟩
    ·have lx:F.length=i:=by rw[<- ls.len,a2]
     rcases Jr j i with g|g|g
     ·rw[Gw Z1] at h2
      exact a6 j T ao h1 h2
     ·rw[ZLw,g,lx,Hs] at h2
      cases h2
      rw[g,hT] at h1;cases h1
      rw[g];exact ok
     ·rw[GK (by rw[FQ,F6];lia)] at h2;cases h2
   have fl:(iV fs).all gU=true:=by unfold iV;rw[JD];exact Z4r
   have a7:∀ H6:Hp,(∀ c u,c≠O->H5 c=some u->H6 c=some u)->SqL K H6 Y (ZFT):=λ H6 kp=>SqL.of (kp _ _ W (ai _ _ ls.self))
   have aq:ns.length<=900:=by
    have:∀ z∈ns,0<=z/\z<31:=λ z hz=>by
     have en:=tw.en
     have:=tw.pt ((po.2 z).mp hz)
     lia
    have:=qU po.1 this
    lia
   rw[ey] at Z
   refine⟨_,rfl,_,rfl,f,iV fs,rfl,.inl (ah.seq hf),rfl,fl,_,rfl,Z0W⟩
   ·rw[Z1X,jJ] at z
    have z':(i:Int)∉fs:=by simpa using z
    refine⟨_,rfl,1,rfl,O,_,-1,Z6Y,rfl,rfl,ZLf,by rw[ip];exact ij,_,rfl,rfl,_,rfl,Z5G⟩
    ·have z3:y≠T0.evs.length:=by simpa using z2
     refine⟨_,rfl,.inl ⟨rfl,_,ZLf⟩,_,rfl,O,_,Z1y,rfl,rfl,Z,dc (by rw[<- ey];unfold iV;rw[FO];lia),?_⟩
     refine⟨_,rfl,.inl ⟨rfl,_,a7 _ λ c u nc e=>by rw[ZH0];exact e⟩,_,rfl,a8 _ (ns++[(T0.evs.length:Int)]) (λ c u nc e=>by rw[ZH0];exact e) (by rw[cy,ip (xs:=ns),ey]) ⟨?_,λ v=>?_⟩⟩
     ·refine Hd.mpr ⟨po.1,Ze,λ a ha b hb=>?_⟩
      rw[FL] at hb
      rw[ey] at ha
      rcases FY.mp ha with ha|ha
      ·have:=ap a ha;lia
      ·rw[FL] at ha;lia
     ·rw[FY,FL,po.2,Gg z'];simp
    ·have z3:y=T0.evs.length:=by simpa using z2
     refine⟨_,rfl,Z7I,_,rfl,a8 _ ns ZHw (by rw[ey];exact Z) ZFB⟩
     rw[Gg z']
     constructor
     ·exact λ h=>.inl ((po.2 v).mp h)
     ·rintro(h|⟨_,h⟩)
      ·exact(po.2 v).mpr h
      ·rw[h,<- z3,ey];simp
   ·rw[Z1X,jJ] at z
    have z':¬ (i:Int)∉fs:=by simpa using z
    refine eA rfl ⟨_,rfl,Z7I,_,rfl,a8 _ ns ZHw (by rw[ey];exact Z) ZFB⟩
    rw[GW z',po.2];simp
  ·rintro σ H3 ⟨U,F,a2,ls,s3,a1,fr,a6,o3,o4,o5,rfl⟩
   subst ak
   exact⟨_,rfl,k Y U F H3 s3 a9 (λ q hq=>(fr q hq).1) ls (by rw[<- ls.len,a2,a5]) a6⟩
structure DeL where
 (d dx po ta al:Addr)
 qs:Zq
noncomputable def deF (po ta al:Addr):List (Str×V):=[("posted",Z7c),("taken",Z55),("allowed",.ref al)]
structure De (t:Adr) (H:Hp) (D:DeL) (A:DiA) (xss:List (List Int)):Prop where
 self:H D.d=some (.ins t.c_Descent D.dx (deF D.po D.ta D.al))
 po:H D.po=some (.dT (A.po.map λ l=>(Z0i,Z0P)))
 ta:H D.ta=some (.dT (A.ta.map λ e=>(Z1J,Z0Y)))
 lls:Lls H D.al D.qs xss
 lets:∀ l∈A.po,H l.adr=some ZI8
theorem Lls.same (h:Lls H l qs xss) (s:Z1t):Lls H' l qs xss:=⟨ZDp,h.len,h.nd,h.ne,λ i q xs a b=>s _ _ ZHk⟩
theorem De.same (h:Z7G) (s:Z1t):ZJJ:=⟨ZDp,s _ _ h.po,s _ _ h.ta,h.lls.same s,λ l F=>s _ _ (h.lets l F)⟩
def BQ (K:W.Frag) (t:Adr):Sp:=λ vs H Q _=>∃ H0 G L A n f fs d dx,vs=[ZCG,Zk,Z7H]/\cG H0 H/\H0 d=none/\H d=some (ZDY)/\Lo K t G H0 L A n/\n<=30/\SqL K H0 f ZAg /\
 ∀ D xss H',D.d=d->cG H0 H'->(∀ b∈D.qs,H0 b=none)->De t H' D A.A xss->xss.length=A.many->(∀ (i:Nat) T xs,A.ths[i]? = some T->xss[i]? = some xs->AlO T (decide ((i:Int)∉fs)) xs)->Q .non H'
theorem DR (T:ZJ):dk P w K mg base ZM 5 t.f_bp t.fd_bp ["self","loom","fallen"] (BQ K t):=by
 refine T.F_bp.okN Ff Z6 (λ ab A outer s H vs Q E hr h=>?_)
 ·obtain⟨H0,G,L,A,n,f,fs,d,dx,rfl,_⟩:=h;rfl
 ·obtain⟨H0,G,L,A,n,f,fs,d,dx,rfl,s0,nd,hd,lo,hn,hf,k⟩:=h
  refine⟨_,(cD (dj (K:=K) ZX (cX ZI T.cl_Loom T.me_aj ZMJ Z0 T.b_aj .nil cH) rfl)
   (cD (dj (K:=K) ZX (cX ZI T.cl_Loom T.me_ak ZMH Z0 T.b_ak .nil cH) rfl)
   (cE (dj (K:=K) ZX (cU (B8 (K:=K) T) Z0 rfl T.mg_ba T.kp_ba T.b_ba .nil cH Z7m) rfl)))),?_⟩
  refine⟨_,rfl,L.p,L.dx,_,rfl,(lo.same s0).c.self,rfl,G,L,A,n,rfl,lo.same s0,hn,λ F H1 s1 a2 a5=>?_⟩
  have a7:=s1 _ _ hd
  have Z:F≠d:=λ z=>by rw[z,hd] at a2;cases a2
  refine⟨_,rfl,d,_,dx,_,rfl,a7,T.cl_Descent,T.na_bb,Z4,?_⟩
  have s2:cG H0 (upd H1 d (.ins t.c_Descent dx (cL "posted" (Z9C) []))):=λ c u e=>by
   rw[ZDv];exact s1 _ _ (s0 _ _ e)
  have Y:=cy (H:=H1) (a:=d) (o:=.ins t.c_Descent dx (cL "posted" (Z9C) []))
  have O:upd H1 d (.ins t.c_Descent dx (cL "posted" (Z9C) [])) F=some (.dT (A.A.po.map λ l=>(Z0i,Z0P))):=by rw[cz Z];exact a5
  generalize upd H1 d (.ins t.c_Descent dx (cL "posted" (.ref F) []))=H2 at s2 Y O ⊢
  refine⟨_,rfl,L.p,L.dx,_,rfl,(Z6f).c.self,rfl,G,L,A,n,rfl,Z6f,hn,λ ta H3 s3 a3 a6=>?_⟩
  have a4:ta≠d:=λ z=>by rw[z,Y] at a3;cases a3
  refine⟨_,rfl,d,_,dx,_,rfl,s3 _ _ Y,T.cl_Descent,T.na_bi,by show 1<1000;decide,?_⟩
  have s4:cG H0 (upd H3 d (.ins t.c_Descent dx (cL "taken" (Z55) (cL "posted" (Z9C) [])))):=λ c u e=>by
   rw[ZDv];exact s3 _ _ Z8q
  have J:=cy (H:=H3) (a:=d) (o:=.ins t.c_Descent dx (cL "taken" (Z55) (cL "posted" (Z9C) [])))
  have U:upd H3 d (.ins t.c_Descent dx (cL "taken" (Z55) (cL "posted" (Z9C) []))) F=some (.dT (A.A.po.map λ l=>(Z0i,Z0P))):=by rw[cz Z];exact s3 _ _ O
  have W:upd H3 d (.ins t.c_Descent dx (cL "taken" (Z55) (cL "posted" (Z9C) []))) ta=some (.dT (A.A.ta.map λ e=>(Z1J,Z0Y))):=by rw[cz a4];exact a6
  generalize upd H3 d (.ins t.c_Descent dx (cL "taken" (.ref ta) (cL "posted" (.ref F) [])))=H4 at s4 J U W ⊢
  refine⟨_,rfl,_,rfl,G,L,A,n,f,fs,rfl,lo.same s4,hn,s4.seq hf,λ al qs aa H5 s5 a1 fr ls lx ok=>?_⟩
  have a8:al≠d:=λ z=>by rw[z,J] at a1;cases a1
  have a9:∀ q∈qs,q≠d:=λ q hq z=>by have:=fr q hq;rw[z,J] at this;cases this
  refine⟨_,rfl,d,_,dx,_,rfl,s5 _ _ J,T.cl_Descent,T.na_au,by show 2<1000;decide,?_⟩
  have s6:cG H0 (upd H5 d (.ins t.c_Descent dx (cL "allowed" (.ref al) (cL "taken" (Z55) (cL "posted" (Z9C) []))))):=λ c u e=>by
   rw[ZDv];exact s5 _ _ ZGC
  refine k ⟨d,dx,F,ta,al,qs⟩ aa _ rfl s6 (λ b hb=>s4.free (fr b hb)) ⟨cy,?_,?_,⟨?_,ls.len,ls.nd,ls.ne,λ i q xs h1 h2=>?_⟩,λ l hl=>s6 _ _ (lo.c.held _ _ (lo.c.di.lets l hl))⟩ lx ok
  ·rw[cz Z];exact s5 _ _ U
  ·rw[cz a4];exact s5 _ _ W
  ·rw[cz a8];exact ls.self
  ·rw[cz (a9 q (FT h1))];exact ls.at' i q xs h1 h2
noncomputable def fi (xs:Zc):Int:=(xs.getLast?).getD 0
theorem jn:fi (ys++[y])=y:=by unfold fi;simp
def BP (K:W.Frag) (t:Adr):Sp:=λ vs H Q _=>∃ D A xss,vs=[ZGY]/\De t H D A xss/\xss.length<=5/\(∀ xs∈xss,xs≠[])/\∀ l H',cG H H'->H l=none->H' l=some (.lst (iV Z0O))->Q Zg H'
theorem qY (T:ZJ):dk P w K mg base ZM 1 t.f_ar t.fd_ar ["self"] (BP K t):=by
 refine T.F_ar.okN Em Z6 Z0I
 ·obtain⟨D,A,J,rfl,_⟩:=h;rfl
 ·obtain⟨D,A,J,rfl,de,a2,ne,k⟩:=h
  refine⟨_,(cE (cQ (dH ["self","points"] 1 rfl Z1W (λ _ _ _ _ _=>⟨(cN (i:=1) (show List.Nodup (["self","points"]:ZT) from by decide +kernel) rfl Z5),dG,(cY ZR ZI ZHJ ZA)⟩)))),?_⟩
  have ll:=de.lls
  have lq:(ZBY).length=J.length:=by rw[FO,ll.len]
  refine⟨_,rfl,D.d,_,D.dx,_,_,rfl,de.self,T.cl_Descent,T.na_au,rfl,D.al,rfl,⟨_,ZBT⟩,dU (xs:=ZBY) Z1 λ acc F=>⟨λ i O ys H2=>ys=iV ((J.take i).map fi)/\H2 acc=some Zb/\cG H H2/\∃ o,O=[Z4I,o],Z4G,?_,?_,?_⟩⟩
  ·rintro i O ys H2 hi ⟨rfl,_,W,_⟩
   refine⟨SqL.of (W _ _ ll.self),?_⟩
   unfold iV
   rw[FO,FO,Gu];lia
  ·rintro i v O ys H2 hi Z ⟨rfl,e2,W,o,rfl⟩
   obtain⟨q,hq,rfl⟩:∃ q,D.qs[i]? = some q/\v=.ref q:=by
    rw[FP] at Z
    cases e:D.qs[i]? with
    | none=>rw[e] at Z;cases Z
    | some q=>rw[e] at Z;cases Z;exact Z9u
   obtain⟨xs,U⟩:∃ xs,J[i]? = some xs:=Z5V
   obtain⟨zs,z,ez⟩:=fS (ne xs (FT U))
   have Y:=W _ _ (ll.at' i q xs hq U)
   rw[ez,ip] at Y
   dsimp only[eh,gy]
   refine fC ⟨_,rfl,1,rfl,q,_,-1,.int z,rfl,rfl,SqL.of Y,ij,e2,Z26⟩
   ·rw[GQ,U,ez]
    show _=iV (((J.take i)++[zs++[z]]).map fi)
    rw[F0,Ih,jn,ip]
   ·rw[Z3R];exact W _ _ e
  ·rintro O ys H2 ⟨rfl,e2,W,o,rfl⟩
   rw[JC Z1] at e2
   exact k acc H2 W F e2
structure DeB (t:Adr) (H:Hp) (D:DeL) (A:DiA) (xss:List (List Int)) (m:Nat) (b:Addr) (e:Nm3×Int) (l:fk):Prop where
 de:Z7G
 nd:(A.po.map (·.nm)).Nodup
 nt:(A.ta.map (·.1)).Nodup
 lx:xss.length=m
 m5:m<=5
 ne:∀ xs∈xss,xs≠[]
 he:e∈A.ta
 hl:l∈A.po
 el:l.nm=e.1
 r1:0<=e.1.1/\e.1.1<m
 r2:0<=l.to/\l.to<m
 hb:H b=some (.tup (nV e.1))
section
variable {H H':Hp}{D:DeL}{A:DiA}{xss:List (List Int)}{m:Nat}{b:Addr}{e:Nm3×Int}{l:fk}
theorem DeB.same (d:Z3E) (s:Z1t):DeB t H' D A xss m b e l:=⟨d.de.same s,d.nd,d.nt,d.lx,d.m5,d.ne,d.he,d.hl,d.el,d.r1,d.r2,s _ _ d.hb⟩
theorem DeB.v1 (d:Z3E):eu (A.po.map λ l=>(Z0i,Z0P)) (Z1J)=some (Z6k):=by rw[<- d.el];exact eS (λ l:fk=>Z0i) ZAc (fH (f:=fk.nm) eZ d.nd) d.hl
theorem DeB.v2 (d:Z3E):eu (A.ta.map λ e=>(Z1J,Z0Y)) (Z1J)=some (.int e.2):=eS (λ e:Nm3×Int=>Z1J) Z4_ (fH (f:=Prod.fst) eZ d.nt) d.he
theorem DeB.atq (d:Z3E) (F:D.qs[l.to.toNat]? = some q):atI ZBY l.to=some (Z2P):=by
 obtain⟨i,hi⟩:=Gr d.r2.1
 rw[hi,GB] at F
 rw[hi]
 refine dW ?_
 rw[FP,F];rfl
end
def CY (K:W.Frag) (t:Adr):Sp:=λ vs H Q _=>∃ D A xss m b e l,vs=[ZGY,Zj]/\DeB t H D A xss m b e l /\
 ∀ H',cG H H'->Q (.bl (decide (e.2<=cO Z0O l.to) && !decide (e.1.2.1<=cO Z0O e.1.1))) H'
theorem E9 (T:ZJ):dk P w K mg base ZM 3 t.f_ad t.fd_ad ["self","name"] (CY K t):=by
 refine T.F_ad.okN ya Z6 ZB
 ·obtain⟨D,A,xss,m,b,e,l,rfl,_⟩:=h;rfl
 ·obtain⟨D,A,xss,m,b,e,l,rfl,d,k⟩:=h
  refine⟨_,(cD (dy (PW.pt (hZ (eE (dN (cU ZMG Z0 rfl T.mg_du T.kp_du T.b_du .nil cH Zf))) (gS ZFr)))
    Z0T
    da)
   (cD (cV (i:=2) ya.nd rfl Z5 (cX ZX T.cl_Descent T.me_ar ZMV Z0 T.b_ar .nil cH))
   (cE (cQ (kT (cU (EG (K:=K) T) Z0 rfl T.mg_az T.kp_az T.b_az .nil cH (cF ZV (cF Z8r (cF Z2p cC)))) (jx (qp (cU ZMC Z0 rfl T.mg_ay T.kp_ay T.b_ay .nil cH (cF ZV Zf))))))))),?_⟩
  refine⟨_,rfl,b,e.1.1,e.1.2.1,e.1.2.2,rfl,d.hb,λ H1 s1=>⟨_,rfl,ZIb⟩⟩
  have d1:=d.same s1
  refine⟨_,rfl,_,rfl,D.d,_,D.dx,_,_,rfl,d1.de.self,T.cl_Descent,T.na_bi,rfl,D.ta,_,rfl,.inr ⟨_,Z1J,b,.inl d1.de.ta,rfl,d1.hb,d.v2.symm⟩,_,rfl,ZIb⟩
  have few:xss.length<=5:=by rw[d.lx];exact d.m5
  refine tm ZL d1.de.self rfl .nil ⟨D,A,xss,rfl,d1.de,few,d.ne,λ ln H2 s2 nl el2=>?_⟩
  have d2:=d1.same s2
  have ll:((ZBs).length:Int)=m:=by rw[FO,d.lx]
  have r1:=d.r1
  have r2:=d.r2
  have kk:=k H2 Z4J
  refine⟨_,rfl,_,rfl,D.d,_,D.dx,_,_,rfl,d2.de.self,T.cl_Descent,T.na_bb,rfl,_,rfl,D.po,Z6k,rfl,.inr ⟨_,Z1J,b,.inl d2.de.po,rfl,d2.hb,d.v1.symm⟩,l.adr,_,0,ZAX,rfl,rfl,SqT.of (d2.de.lets l d.hl),rfl,_,rfl,D.d,_,D.dx,_,_,rfl,d2.de.self,T.cl_Descent,T.na_bi,rfl,_,rfl,D.ta,_,rfl,.inr ⟨_,Z1J,b,.inl d2.de.ta,rfl,d2.hb,d.v2.symm⟩,ln,ZBs,l.to,e.2,rfl,SqL.of el2,r2.1,Z1,_,rfl,fY (λ z=>⟨_,rfl,_,rfl,ln,b,ZBs,e.1,rfl,SqL.of el2,d2.hb,r1.1,Z1,_,rfl,?_⟩) λ z=>?_⟩
  ·rw[z,Bool.true_and] at kk
   exact kk
  ·rw[show decide (e.2<=cO Z0O l.to)=false by simpa using z,Bool.false_and] at kk
   exact kk
def DZ (K:W.Frag) (t:Adr):Sp:=λ vs H Q _=>∃ D A xss m b e l x0 xs,vs=[ZGY,Zj]/\DeB t H D A xss m b e l/\xss[l.to.toNat]? = some (x0::xs)/\Q (.bl (decide (x0<e.2))) H
theorem BF (T:ZJ):dk P w K mg base ZM 1 t.f_al t.fd_al ["self","name"] (DZ K t):=by
 refine T.F_al.okN Er Z6 ZB
 ·obtain⟨D,A,xss,m,b,e,l,x0,xs,rfl,_⟩:=h;rfl
 ·obtain⟨D,A,xss,m,b,e,l,x0,xs,rfl,d,hx,k⟩:=h
  refine⟨_,(cE (cQ (eX pq (cY ZR ZHP cJ ZA) Z2p Z0Z))),?_⟩
  obtain⟨q,hq⟩:∃ q,D.qs[l.to.toNat]? = some q:=⟨_,FJ (by rw[d.de.lls.len];exact Z0s)⟩
  exact⟨_,rfl,D.d,_,D.dx,_,_,rfl,d.de.self,T.cl_Descent,T.na_au,rfl,_,rfl,D.d,_,D.dx,_,_,rfl,d.de.self,T.cl_Descent,T.na_bb,rfl,_,rfl,D.po,Z6k,rfl,Z4f,l.adr,_,0,ZAX,rfl,rfl,ZBS,rfl,D.al,_,_,_,rfl,rfl,ZEt,d.atq hq,q,_,0,.int x0,rfl,rfl,SqL.of ZC0,dR,_,rfl,D.d,_,D.dx,_,_,rfl,d.de.self,T.cl_Descent,T.na_bi,rfl,_,rfl,D.ta,_,rfl,.inr ⟨_,Z1J,b,.inl d.de.ta,rfl,d.hb,d.v2.symm⟩,_,_,rfl,rfl,k⟩
def EZ (K:W.Frag) (t:Adr):Sp:=λ vs H Q _=>∃ D A xss m b e l x0 xs q,vs=[ZGY,Zj]/\DeB t H D A xss m b e l/\xss[l.to.toNat]? = some (x0::xs)/\D.qs[l.to.toNat]? = some q/\(x0::xs).Pairwise (· < ·)/\x0<e.2 /\
 ∀ H',But [q] H H'->H' q=some (.lst (iV ((x0::xs).filter λ y=>decide (y<e.2))))->Q .non H'
theorem CN (T:ZJ):dk P w K mg base ZM 1 t.f_bq t.fd_bq ["self","name"] (EZ K t):=by
 refine T.F_bq.okN yR Z6 ZB
 ·obtain⟨D,A,xss,m,b,e,l,x0,xs,q,rfl,_⟩:=h;rfl
 ·obtain⟨D,A,xss,m,b,e,l,x0,xs,q,rfl,d,hx,hq,asc,lt,k⟩:=h
  refine⟨_,(cD (cV (i:=2) yR.nd rfl Z5 ZHP)
   (cE (oV PassesOwn.never (cZ oS (cY ZR ZV ZHJ ZA) Z2p Z0Z)
    (cE (cR (mE (K:=K) F5 PySem.F.slot_list_pop PySem.F.type_list_pop wc ZV)))))),?_⟩
  have hq':=ZC0
  refine⟨_,rfl,D.d,_,D.dx,_,_,rfl,d.de.self,T.cl_Descent,T.na_au,rfl,_,rfl,D.d,_,D.dx,_,_,rfl,d.de.self,T.cl_Descent,T.na_bb,rfl,_,rfl,D.po,Z6k,rfl,Z4f,l.adr,_,0,ZAX,rfl,rfl,ZBS,rfl,D.al,_,_,_,rfl,rfl,ZEt,d.atq hq,?_⟩
  refine⟨λ m σ H'=>∃ ys zs,x0::xs=ys++zs/\(∀ z∈zs,e.2<=z)/\m=ys.length/\But [q] H H'/\H' q=some ZKz/\σ=[Z4I,Z9y,ZLA],⟨_,x0::xs,[],Ze,(λ z hz=>by cases hz),rfl,(λ c u _ e=>e),hq',rfl⟩,?_⟩
  rintro m σ H' ⟨ys,zs,e1,big,rfl,bt,eq',rfl⟩
  have ny:ys≠[]:=λ z=>by
   rw[z,Jg] at e1
   have:=big x0 (by rw[<- e1];exact FZ)
   lia
  obtain⟨us,u,rfl⟩:=fS ny
  have kd:∀ c o,H c=some o->(∀ ys,o≠.lst ys)->H' c=some o:=λ c o h n=>bt c o (by rw[FL];exact λ z=>by rw[z,hq'] at h;exact ZKA) h
  have sf:=kd _ _ d.de.self (λ _ z=>by cases z)
  have hb':=kd _ _ d.hb (λ _ z=>by cases z)
  have tk:=kd _ _ d.de.ta (λ _ z=>by cases z)
  refine⟨_,rfl,1,rfl,q,_,-1,.int u,rfl,rfl,SqL.of eq',by rw[ip];exact ij,_,rfl,D.d,_,D.dx,_,_,rfl,sf,T.cl_Descent,T.na_bi,rfl,_,rfl,D.ta,_,rfl,.inr ⟨_,Z1J,b,.inl tk,rfl,hb',d.v2.symm⟩,_,_,rfl,rfl,_,rfl,Z0W⟩
  ·have z':e.2<=u:=GH z
   refine⟨λ σ2 H2=>∃ m',m'<(us++[u]).length/\∃ ys zs,x0::xs=ys++zs/\(∀ z∈zs,e.2<=z)/\m'=ys.length/\But [q] H H2/\H2 q=some ZKz/\σ2=[Z4I,Z9y,ZLA],λ _ _ h=>h,?_⟩
   refine⟨_,rfl,.inl ⟨rfl,_,SqL.of eq'⟩,q,_,.int u,rfl,rfl,eq',?_,us.length,by rw[FQ,F6];lia,us,u::zs,by rw[e1,Hu];rfl,λ z hz=>?_,rfl,λ c o n h=>?_,?_,rfl⟩
   ·rw[ip,FQ,F6,Nat.add_sub_cancel,Gh Z9,Hs];rfl
   ·rcases FR.mp hz with h|h
    ·rw[h];exact z'
    ·exact big z h
   ·rw[cz (by simpa using n)];exact bt c o n h
   ·rw[cy,ip,List.dropLast_concat]
  ·have z':u<e.2:=by have:¬ e.2<=u:=λ y=>z (Gg y);lia
   refine k H' bt ?_
   rw[eq',e1,Hy]
   rw[e1] at asc
   have a1:=(Hd.mp asc).1
   have f1:(us++[u]).filter (λ y=>decide (y<e.2))=us++[u]:=List.filter_eq_self.mpr λ y hy=>by
    rw[HR]
    rcases FY.mp hy with h|h
    ·have:=(ZLr).2.2 y h u Z8;lia
    ·rw[FL.mp h];exact z'
   have f2:zs.filter (λ y=>decide (y<e.2))=[]:=IU.mpr λ y hy=>by
    have:=big y hy
    rw[HR];lia
   rw[f1,f2,Gx]
structure Lnm (H:Hp) (l:Addr) (qs:List Addr) (nss:List (List Nm3)):Prop where
 self:H l=some Z8y
 len:qs.length=nss.length
 nd:qs.Nodup
 ne:l∉qs
 at':∀ (i:Nat) q ns,qs[i]? = some q->nss[i]? = some ns->∃ ls,H q=some Z4d/\NmL H ls ns
theorem Lnm.same (h:ZBU) (s:Z1t):ZJ3:=⟨ZDp,h.len,h.nd,h.ne,λ i q xs a b=>let ⟨F,e,n⟩:=ZHk;⟨F,Z6G,n.same s⟩⟩
theorem xS {H:Hp}{es:List (Nm3×Int)}{bs:Zq}(h:pI H (es.map λ e=>(Z1J,Z0Y)) bs):NmL H ZKu (es.map (·.1)):=by
 have F:∀ (i:Nat) b e,bs[i]? = some b->es[i]? = some e->hX H Zj e.1:=λ i b e J O=>⟨b,rfl,h.2 i b Z1J Z0Y J (by rw[FP,O];rfl)⟩
 have Y:bs.length=es.length:=by rw[h.1,FO]
 refine⟨Z3U,λ v U=>?_⟩
 ·rw[GJ,FP,FP]
  by_cases W:i<bs.length
  ·have O:=ZEz
   have J:=FJ W
   rw[O,J]
   exact congrArg some (F i _ _ J O).of
  ·rw[ZLx,ZLx];rfl
 ·obtain⟨b,J,rfl⟩:=F2.mp U
  obtain⟨i,hi,rfl⟩:=Gm J
  have:=F i _ _ ZCw ZEz
  rw[this.of];exact this
noncomputable def fB (m:Nat) (ns:Z1L):List (Z1L):=(List.range m).map λ h:Nat=>ns.filter λ n=>decide (n.1=(h:Int))
def C2 (K:W.Frag) (t:Adr):Sp:=λ vs H Q _=>∃ G L A n,vs=[Zk]/\Lo K t G H L A n/\n<=30/\∀ u us ns H',cG H H'->H u=none->(∀ q∈us,H q=none)->Lnm H' u us (Z6N)->tL ns->ns.Perm (A.A.ta.map (·.1))->Q (.ref u) H'
theorem Cp (T:ZJ):dk P w K mg base ZM 2 t.f_br t.fd_br ["loom"] (C2 K t):=by
 refine T.F_br.okN v8 Z6 (λ an A outer s H vs Q E hr h=>?_)
 ·obtain⟨G,L,A,n,rfl,_⟩:=h;rfl
 ·obtain⟨G,L,A,n,rfl,lo,hn,k⟩:=h
  refine⟨_,(cD (fF ["loom","used","name","hand"] 1 (i:=1) rfl v8.nd rfl Z5 ZDI (λ _ _ _ _ _=>⟨(cN (i:=3) (show List.Nodup (["loom","used","name","hand"]:ZT) from by decide +kernel) rfl Z5),dG,Z2g⟩))
   (cD (dI PassesOwn.never rfl (dD (K:=K) (dB (pH rfl) rfl T.no_sorted kh (cF (cX ZX T.cl_Loom T.me_ak ZMH Z0 T.b_ak .nil cH) cC))) (cN (i:=2) v8.nd rfl Z5)
    (cE (cR (dQ (K:=K) F5 Gj Gi dA (cY ZR ZI (cY Zm ZV cJ ZA) ZA) Z0x))))
   Z6a)),?_⟩
  refine sq λ am af=>?_
  have m2:=lo.m2
  refine⟨_,rfl,L.p,_,L.dx,_,_,rfl,lo.c.self,T.cl_Loom,T.na_dk,rfl,(A.many:Int),rfl,Z1,Z1,eO (n:=A.many) Z1 λ u hu=>⟨λ i a6 ys H2=>∃ F:List Addr,ys=F.map V.ref/\F.length=i/\F.Nodup/\(∀ q∈F,H q=none/\q≠u/\H2 q=some Zr)/\H2 u=some Zb/\cG H H2,⟨[],rfl,rfl,.nil,(λ q O=>by cases O),cy,cG.new hu⟩,?_,?_,?_⟩⟩
  ·rintro i a6 ys H2 hi ⟨F,rfl,lu,_⟩
   rw[FO];lia
  ·rintro i a6 ys H2 hi ⟨F,rfl,lu,nd,fr,e2,s2⟩
   dsimp only[eh,gy]
   refine fC ⟨Z4,λ q Z=>?_⟩
   have a5:q≠u:=λ z=>by rw[z,e2] at Z;cases Z
   have ab:q∉F:=λ z=>by rw[(fr q z).2.2] at Z;cases Z
   refine⟨by rw[ZIe];exact e2,Nx.mk hi ⟨F++[q],by rw[F0];rfl,by rw[FQ,lu];rfl,GP.mpr ⟨nd,Ze,λ a ha b hb z=>ab (by rw[FL] at hb;rw[<- hb,<- z];exact ha)⟩,λ c hc=>?_,cy,λ c o e=>?_⟩⟩
   ·rcases FY.mp hc with hc|hc
    ·obtain⟨f1,f2,f3⟩:=fr c hc
     exact⟨f1,f2,by rw[cz f2,cz (λ z=>ab (by rw[<- z];exact hc))];exact f3⟩
    ·rw[FL] at hc
     rw[hc]
     exact⟨s2.free Z,a5,by rw[cz a5,cy]⟩
   ·rw[cz (cB e hu),cz (cB Z8q Z)];exact s2 _ _ e
  rintro a6 ys H2 ⟨F,rfl,lu,nd,fr,e2,s2⟩
  have a8:=Z6f
  refine(sn af λ au ag=>?_:am _ _ _)
  refine⟨_,rfl,L.p,L.dx,_,rfl,a8.c.self,rfl,G,L,A,n,rfl,a8,hn,λ td H3 s3 ar ah=>?_⟩
  have tb:=lo.ta hn
  refine⟨td,_,rfl,ah,by rw[FO];lia,λ bs ks=>?_⟩
  have nm:=xS ks
  have sm:∀ x∈A.A.ta.map (·.1),Small x:=λ x hx=>by
   obtain⟨e,he,rfl⟩:=F2.mp hx
   exact tb.2 e he
  refine⟨nm.small sm,by rw[nm.yl];exact jK lo.wf.nt sm,λ l J nl p so=>?_⟩
  obtain⟨ns,n1,n2,n3⟩:=nm.sorted p so
  have s4:=cG.new (o:=.lst J) nl
  have el:=cy (H:=H3) (a:=l) (o:=.lst J)
  have a9:=n1.same s4
  have a3:=Z7U
  generalize upd H3 l (.lst J)=H4 at s4 el a9 a3 ⊢
  have ae:=a3 _ _ e2
  have aq:l≠u:=λ z=>by rw[z,ZDo] at nl;cases nl
  have aa:l∉F:=λ z=>by rw[s3 _ _ (fr l z).2.2] at nl;cases nl
  have rg:∀ x∈ns,0<=x.1/\x.1<A.many:=λ x hx=>by
   obtain⟨e,he,rfl⟩:=F2.mp (n2.mem_iff.mp hx)
   obtain⟨y,hy,ey,_⟩:=ZCh
   have:=lo.wf.rg y hy
   rw[<- ey];exact⟨this.1,this.2.1⟩
  have gt:∀ (i:Nat) (xs:List Nm3),i<A.many->(fB A.many xs)[i]? = some (xs.filter λ n=>decide (n.1=(i:Int))):=λ i xs hi=>by
   unfold fB
   rw[FP,JR hi];rfl
  have bl:∀ xs,(fB A.many xs).length=A.many:=λ xs=>by unfold fB;rw[FO,Il]
  refine⟨l,rfl,⟨_,Z39⟩,gz (xs:=J) (λ i σ H'=>Lnm H' u F (fB A.many Z7i)/\cG H H'/\H' l=some (.lst J)/\NmL H' J ns/\∃ o,σ=[ZE,Z7x,o]) ⟨⟨ae,by rw[bl];exact lu,nd,(λ z=>(fr u z).2.1 rfl),λ i q xs h1 h2=>?_⟩,s2.trans a3,el,a9,_,rfl⟩ ?_ ?_ ?_⟩
  ·have hi:i<A.many:=by have:=Z6b;rw[bl] at this;exact this
   rw[gt i _ hi] at h2
   cases h2
   exact⟨[],a3 _ _ (fr q (FT h1)).2.2,.nil⟩
  ·rintro i σ H' _ ⟨_,_,e,_⟩
   exact ZCl
  ·rintro i x σ H' hx ⟨Y,s',a7,U,o,rfl⟩
   have hi:i<ns.length:=by have:=Z0s;rw[U.len] at this;exact this
   have W:=ZCw
   obtain⟨b,rfl,hb⟩:=U.all x ZJo
   have ex:g8 H' (Zj)=ns[i]:=by
    have:=congrArg (λ z=>z[i]?) U.eq
    simp only[FP,hx,W] at this
    exact ZEv
   rw[ex] at hb
   generalize ao:ns[i]=x0 at W hb ex
   obtain⟨g0,g1⟩:=rg x0 (FT W)
   obtain⟨h,hh⟩:=Gr g0
   have ai:h<A.many:=Z1
   obtain⟨q,O⟩:∃ q,F[h]? = some q:=Z5V
   obtain⟨ls,a4,Z⟩:=Y.at' h q _ O (gt h _ ai)
   have ad:atI ZFf x0.1=some (Z2P):=by
    rw[hh];exact dW (by rw[FP,O];rfl)
   have ap:ls.length<=60:=by
    rw[Z.len]
    refine Gd Z9r (Gd (by rw[Gu];exact ZEw) ?_)
    rw[n2.length_eq,FO];exact tb.1
   refine⟨_,rfl,_,rfl,b,_,0,.int x0.1,rfl,rfl,Z5J,rfl,u,_,_,_,rfl,rfl,SqL.of Y.self,ad,.inl ⟨rfl,_,SqL.of a4⟩,_,rfl,q,ls,Zj,rfl,rfl,a4,dc Z1,?_⟩
   have al:u≠q:=λ z=>Y.ne (by rw[z];exact FT O)
   have tk:∀ c xs,H' c=some ZU->upd H' q (.lst (ls++[Zj])) c=some ZU:=λ c xs e=>by rw[cz (λ z=>by rw[z,a4] at e;cases e)];exact e
   refine⟨⟨by rw[cz al];exact Y.self,by rw[bl];exact lu,nd,Y.ne,λ j c xs h1 h2=>?_⟩,λ c o e=>?_,?_,U.keep tk,_,rfl⟩
   ·have hj:j<A.many:=by have:=Z6b;rw[bl] at this;exact this
    rw[gt j _ hj,GQ,W,Hy] at h2
    cases h2
    by_cases z:j=h
    ·subst z
     rw[O] at h1;cases h1
     refine⟨_,cy,?_⟩
     have:([x0].filter λ n=>decide (n.1=(j:Int)))=[x0]:=by rw[Ir,FX (by rw[hh];simp)];rfl
     show NmL _ _ (_++[x0].filter _)
     rw[this]
     exact(Z.snoc ZBC).keep tk
    ·have:([x0].filter λ n=>decide (n.1=(j:Int)))=[]:=by rw[Ir,FV (by rw[hh];simp;lia)];rfl
     show ∃ ls,_/\NmL _ ls (_++[x0].filter _)
     rw[this,Gx]
     obtain⟨aj,a1,a2⟩:=Y.at' j c _ h1 (gt j _ hj)
     have ak:c≠q:=λ y=>z ((Ht (l:=F) Z1 nd).mp (by rw[h1,O,y]))
     exact⟨aj,by rw[cz ak];exact a1,a2.keep tk⟩
   ·rw[cz (cB e (fr q (FT O)).1)];exact s' _ _ e
   ·rw[cz (λ z=>aa (by rw[z];exact FT O))];exact a7
  ·rintro σ H' ⟨Y,s',a7,U,o,rfl⟩
   rw[n1.len,Ho] at Y
   subst ag
   exact⟨_,rfl,k u F ns H' s' hu (λ q O=>(fr q O).1) Y n3 n2⟩
def SgO (nss:List Z1L) (ln:Zc) (v:V):Prop:=(∃ (h:Nat) (ns:List Nm3) (n:Nm3),v=.int h/\nss[h]? = some (ns++[n])/\cO ln h<n.2.1)\/(v=.non/\∀ (h:Nat) ns n,nss[h]? = some (ns++[n])->n.2.1<=cO ln h)
def EL (K:W.Frag):Sp:=λ vs H Q _=>∃ u us nss l ln,vs=[.ref u,Z3G]/\Lnm H u us nss/\SqL K H l Z5m/\ln.length=nss.length/\nss.length<=5/\(∀ (h:Nat) ns,nss[h]? = some ns->∀ n∈ns,n.1=(h:Int)) /\
 ∀ v H',cG H H'->SgO nss ln v->Q v H'
theorem zh (T:ZJ):dk P w K mg base ZM 2 t.f_am t.fd_am ["used","line"] (EL K):=by
 refine T.F_am.okN uB Z6 Z1B
 ·obtain⟨u,us,O,l,ln,rfl,_⟩:=h;rfl
 ·obtain⟨u,us,O,l,ln,rfl,ll,hl,a6,a5,a3,k⟩:=h
  refine⟨_,(cD (dI PassesOwn.never rfl (gs (K:=K) rfl T.no_enumerate Z5N) (eJ (K:=K) rfl (dh (cN (i:=2) uB.nd rfl Z5) (dh (cN (i:=3) uB.nd rfl Z5) eM)))
    (cE (dy (PW.pt (jw (sA (K:=K) Z1E (λ _=>rfl)) (iw (eE (dN (cU ZMC Z0 rfl T.mg_ay T.kp_ay T.b_ay .nil cH (cF ZI (cF (cY ZR Z1E ZHJ ZA) cC))))))))
    Z3z
    da)))
   (cE (cQ iU))),?_⟩
  have lu:(ZDn).length=O.length:=by rw[FO,ll.len]
  refine⟨_,rfl,u,_,rfl,ZBT,fM (xs:=ZDn) (λ i σ H'=>cG H H'/\(∀ (h:Nat) Y n,h<i->O[h]? = some (Y++[n])->n.2.1<=cO ln h)/\∃ o1 o2,σ=[Z7x,Z6E,o1,o2]) ⟨Z3F,(λ h Y n lt=>absurd lt (JH _)),_,_,rfl⟩ ?_ ?_ ?_⟩
  ·rintro i σ H' _ ⟨s',_⟩
   exact SqL.of (s' _ _ ll.self)
  ·rintro i x p σ H1 hx np ⟨s1,Z,o1,o2,rfl⟩
   have hi:i<O.length:=by have:=Z0s;rw[lu] at this;exact this
   obtain⟨q,hq,rfl⟩:∃ q,us[i]? = some q/\x=.ref q:=by
    rw[FP] at hx
    cases e:us[i]? with
    | none=>rw[e] at hx;cases hx
    | some q=>rw[e] at hx;cases hx;exact Z9u
   obtain⟨Y,J⟩:∃ Y,O[i]? = some Y:=⟨_,ZCw⟩
   obtain⟨ls,el,nm⟩:=ll.at' i q Y hq J
   have s2:=cG.new (o:=.tup [Z08,Z2P]) np
   have F:=Z4J
   refine ZS
   generalize upd H1 p (.tup [.int i,.ref q])=H2 at s2 F ⊢
   have a2:=F _ _ el
   have W:=nm.same F
   refine⟨_,rfl,_,.inl ⟨ls,SqL.of a2,rfl⟩,Z0W⟩
   ·have nl:ls≠[]:=λ y=>by rw[y] at z;cases z
    obtain⟨ks,v,rfl⟩:=fS nl
    have nn:Y≠[]:=λ y=>by have:=W.len;rw[y] at this;simp at this
    obtain⟨ms,x0,rfl⟩:=fS nn
    obtain⟨b,rfl,hb⟩:=W.all v Z8
    have ex:g8 H2 (Zj)=x0:=by
     have:=W.eq
     rw[F0,Ih] at this
     exact(Kh this rfl).2 |> λ h=>by cases h;rfl
    rw[ex] at hb
    have s0:x0.1=(i:Int):=a3 i _ J x0 Z8
    refine⟨_,rfl,_,rfl,1,rfl,q,_,-1,Zj,rfl,rfl,SqL.of a2,ij,l,b,ln,x0,rfl,F.seq hl,hb,Z1,Z1,_,rfl,ZIa⟩
    ·have y':cO ln (i:Int)<x0.2.1:=by
      rw[s0] at y
      simpa using y
     exact⟨_,rfl,k _ H2 F (.inl ⟨i,ms,x0,rfl,J,y'⟩)⟩
    ·refine Z7P
     by_cases e:h=i
     ·subst e
      rw[J] at U
      have:=Kh ZH7 rfl
      have e2:x0=n':=by have:=this.2;cases this;rfl
      rw[<- e2]
      rw[s0] at y
      simpa using y
     ·exact ZKS
   ·refine eA rfl Z7P
    by_cases e:h=i
    ·subst e
     rw[J] at U
     have e1:=ZH7
     have:=W.len
     rw[e1] at this
     have:ls≠[]:=λ y=>by rw[y] at this;simp at this
     exact absurd (by cases ls with|nil=>exact absurd rfl this|cons _ _=>rfl) z
    ·exact ZKS
  ·rintro σ H' ⟨s',Z,o1,o2,rfl⟩
   exact k _ H' s' (.inr ⟨rfl,λ h Y n U=>Z h Y n (by rw[lu];exact(FK.mp U).1) U⟩)
def AlY (T:ThA) (st:Prop) (y:Int):Prop:=T.pt y\/(st/\y=T.evs.length)
def AlW (A:LoA) (fs:Zc) (s:Zc):Prop:=s.length=A.many/\∀ (i:Nat) T y,A.ths[i]? = some T->s[i]? = some y->AlY T ((i:Int)∉fs) y
def Gl (A:LoA) (fs:Zc) (ln:Zc):Prop:=AlW A fs ln/\mI Z4b A.A/\∀ s,AlW A fs s->mI (cO s) A.A->∀ i:Nat,i<A.many->cO s i<=cO ln i
theorem jr {ta:List (Nm3×Int)}(J:(ta.map (·.1)).Nodup) {l F:Nm3×Int}(h:l∈ta) (h':F∈ta) (e:l.1=F.1):l=F:=ja J h h' e
structure Iv (A:LoA) (fs:List Int) (xss:List (List Int)) (nss:List (List Nm3)):Prop where
 lx:xss.length=A.many
 ln:nss.length=A.many
 p1:∀ (i:Nat) xs,xss[i]? = some xs->xs≠[]/\xs.Pairwise (· < ·)
 pa:∀ (i:Nat) T xs,A.ths[i]? = some T->xss[i]? = some xs->∀ y∈xs,AlY T ((i:Int)∉fs) y
 p2:∀ s,AlW A fs s->mI (cO s) A.A->∀ (i:Nat) xs,xss[i]? = some xs->cO s i∈xs
 n1:∀ (h:Nat) ns,nss[h]? = some ns->tL ns/\∀ n∈ns,n.1=(h:Int)/\n∈A.A.ta.map (·.1)
 n2:∀ e∈A.A.ta,(∃ ns,nss[e.1.1.toNat]? = some ns/\e.1∈ns)\/∀ l∈A.A.po,l.nm=e.1->cO Z0O l.to<e.2
theorem rJ (h:xs≠[]):fi xs∈xs:=by
 obtain⟨ys,y,rfl⟩:=fS h
 rw[jn];simp
theorem nj (p:xs.Pairwise (· < ·)) (h:y∈xs):y<=fi xs:=by
 obtain⟨ys,z,rfl⟩:=fS (xs:=xs) (λ e=>by rw[e] at h;cases h)
 rw[jn]
 rcases FY.mp h with h|h
 ·have:=(Hd.mp p).2.2 y h z Z8;lia
 ·rw[FL] at h;lia
theorem dY {F:Zc}{i:Nat}{y:Int}(h:F[i]? = some y):cO F i=y:=by
 unfold cO;rw[GB,h];rfl
theorem kH {xss:List (Zc)}{i:Nat}{xs:Zc}(h:xss[i]? = some xs):cO Z0O i=fi xs:=dY (by rw[FP,h];rfl)
section
variable {A:LoA}{fs:List Int}{xss:List (List Int)}{nss:List (List Nm3)}
theorem Iv.done (v:Z6T) (wf:Z1G) (sm:∀ e∈A.A.ta,Small e.1) (h:∀ (h:Nat) ns n,nss[h]? = some (ns++[n])->n.2.1<=cO Z0O h):Gl A fs Z0O:=by
 refine⟨⟨by rw[FO];exact v.lx,λ i T y hT hy=>?_⟩,λ l hl e Z Y hu=>?_,λ s aw sd i hi=>?_⟩
 ·rw[FP] at hy
  obtain⟨xs,e,rfl⟩:=Gs.mp hy
  exact v.pa i T _ hT e _ (rJ (v.p1 i xs e).1)
 ·rcases v.n2 e Z with ⟨ns,F,J⟩|V
  ·have r:=wf.rg l hl
   rw[<- Y] at r ⊢
   obtain⟨k,hk⟩:=Gr r.1
   rw[hk,GB] at F
   obtain⟨a1,W⟩:=v.n1 k ns F
   obtain⟨ms,m,rfl⟩:=fS (xs:=ns) (λ z=>by rw[z] at J;cases J)
   have h1:=h k ms m F
   rw[hk]
   rcases FY.mp J with q|q
   ·have V:=(ZLr).2.2 e.1 q m Z8
    have s1:=(W e.1 J).1
    have s2:=W m Z8
    obtain⟨e',O,em⟩:=F2.mp s2.2
    have q1:=sm e Z
    have q2:=sm e' O
    rw[em] at q2
    have s3:=s2.1
    unfold cd3 at V
    unfold Small at q1 q2
    lia
   ·rw[FL] at q
    rw[q];exact h1
  ·have:=V l hl Y.symm
   lia
 ·obtain⟨xs,U⟩:∃ xs,xss[i]? = some xs:=⟨_,FJ (by rw[v.lx];exact hi)⟩
  rw[kH U]
  exact nj (v.p1 i xs U).2 (v.p2 s aw sd i xs U)
theorem Iv.pop (v:Z6T) (W:nss[h]? = some (ns++[n])) (no:∀ e∈A.A.ta,e.1=n->∀ l∈A.A.po,l.nm=n->cO Z0O l.to<e.2):Iv A fs xss (ZDq):=by
 have F:=(FK.mp W).1
 obtain⟨a1,a2⟩:=v.n1 h _ W
 refine⟨v.lx,by rw[Hm];exact v.ln,v.p1,v.pa,v.p2,λ k Y V=>?_,λ e Z=>?_⟩
 ·rcases fz F V with ⟨rfl,rfl⟩|⟨_,V⟩
  ·exact⟨(ZLr).1,λ m J=>a2 m (Gy _ J)⟩
  ·exact v.n1 k Y V
 ·by_cases U:e.1=n
  ·exact .inr (by rw[U];exact no e Z U)
  ·rcases v.n2 e Z with ⟨Y,J,O⟩|lt
   ·refine .inl ?_
    by_cases z:h=e.1.1.toNat
    ·rw[<- z,W] at J
     cases J
     refine⟨ns,by rw[<- z];exact F8 F,?_⟩
     rcases FY.mp O with q|q
     ·exact q
     ·exact absurd (FL.mp q) U
    ·exact⟨Y,by rw[Gk z];exact J,O⟩
   ·exact .inr lt
theorem Iv.ahead {e:Nm3×Int}{l:fk}{k:Nat}{xs:Zc}(v:Z6T) (wf:Z1G) (he:e∈A.A.ta) (Y:l∈A.A.po) (V:l.nm=e.1)
  (hk:l.to=(k:Int)) (hx:xss[k]? = some xs) (J:¬ e.1.2.1<=cO Z0O e.1.1) {s:Zc} (U:AlW A fs s) (O:mI (cO s) A.A):cO s k∈xs.filter λ y=>decide (y<e.2):=by
 refine GG.mpr ⟨v.p2 s U O k _ hx,?_⟩
 rw[HR]
 refine Int.lt_of_not_ge λ ge=>?_
 have s1:=O l Y e he V.symm (by rw[hk];exact ge)
 have Z:=wf.rg l Y
 rw[V] at Z s1
 obtain⟨j,W⟩:=Gr Z.1
 obtain⟨zs,F⟩:∃ zs,xss[j]? = some zs:=⟨_,FJ (by rw[v.lx];omega)⟩
 have:=nj (v.p1 j zs F).2 (v.p2 s U O j zs F)
 rw[W,kH F] at J
 rw[W] at s1
 omega
theorem Iv.step {h:Nat}{ns:Z1L}{e:Nm3×Int}{l:fk}{k:Nat}{xs:Zc}(v:Z6T) (wf:Z1G) (he:e∈A.A.ta) (hl:l∈A.A.po) (el:l.nm=e.1) (hn:nss[h]? = some (ns++[e.1]))
  (hk:l.to=(k:Int)) (hx:xss[k]? = some xs) (nsn:¬ e.1.2.1<=cO Z0O e.1.1) {s0:Zc} (aw0:AlW A fs s0) (sd0:mI (cO s0) A.A):Iv A fs (xss.set k (xs.filter λ y=>decide (y<e.2))) (ZDq):=by
 have klt:=Z0s
 obtain⟨_,asc⟩:=v.p1 k xs hx
 have ne':xs.filter (λ y=>decide (y<e.2))≠[]:=Ig (v.ahead wf he hl el hk hx nsn aw0 sd0)
 have tm':=GG.mp (rJ ne')
 have tle:∀ (x:Int),cO ((xss.set k (xs.filter λ y=>decide (y<e.2))).map fi) x<=cO Z0O x:=λ x=>by
  by_cases z:x.toNat=k
  ·unfold cO
   rw[z,FP,FP,F8 klt,hx]
   simp only[Je,Option.getD_some]
   exact nj asc tm'.1
  ·unfold cO
   rw[FP,FP,Z7E]
   exact Z9U
 have v':Iv A fs (xss.set k (xs.filter λ y=>decide (y<e.2))) nss:=by
  refine⟨by rw[Hm];exact v.lx,v.ln,λ i ys hi=>?_,λ i T ys hT hi y hy=>?_,λ s aw sd i ys hi=>?_,v.n1,λ d hd=>?_⟩
  ·rcases fz klt hi with ⟨rfl,rfl⟩|⟨_,hi⟩
   ·exact⟨ne',asc.filter _⟩
   ·exact v.p1 i ys hi
  ·rcases fz klt hi with ⟨rfl,rfl⟩|⟨_,hi⟩
   ·exact v.pa i T _ hT hx y (GG.mp hy).1
   ·exact v.pa i T ys hT hi y hy
  ·rcases fz klt hi with ⟨rfl,rfl⟩|⟨_,hi⟩
   ·exact v.ahead wf he hl el hk hx nsn aw sd
   ·exact v.p2 s aw sd i ys hi
  ·exact(v.n2 d hd).imp id λ lt l' hl' el'=>Int.lt_of_le_of_lt (tle _) (lt l' hl' el')
 refine v'.pop hn λ d hd en l' hl' el'=>?_
 have:d=e:=jr wf.nt hd he en
 have e2:l'=l:=fW wf.nd hl' hl (el'.trans el.symm)
 rw[this,e2,hk,kH (F8 klt)]
 exact GH tm'.2
theorem sum_set:∀ {nss:List (List Nm3)}{h:Nat}{ns:List Nm3}{n:Nm3},nss[h]? = some (ns++[n])->((ZDq).map List.length).sum<(Z1e).sum
 | [],h,_,_,e=>by simp at e
 | x::r,0,ns,n,e=>by
  have F:x=ns++[n]:=by simpa using e
  rw[F]
  simp
 | x::r,h+1,ns,n,e=>by
  have:=sum_set (nss:=r) (h:=h) (by simpa using e)
  simp at this ⊢
  exact this
theorem AlO.iff {T:ThA}{fs xs:Zc}{i:Nat}(h:AlO T (decide ((i:Int)∉fs)) xs) (y:Int):y∈xs↔AlY T ((i:Int)∉fs) y:=by
 rw[h.2 y];unfold AlY;simp
theorem Iv.start {ns:Z1L}{n:Nat}(lt:A.ths.length=A.many) (tw:∀ T∈A.ths,Z53) (wf:Z1G) (lk:Lk A.ths A.A) (lx:xss.length=A.many) (O:∀ (i:Nat) T xs,A.ths[i]? = some T->xss[i]? = some xs->AlO T (decide ((i:Int)∉fs)) xs) (as:tL ns) (pm:ns.Perm (A.A.ta.map (·.1))) :
  Iv A fs xss (Z6N):=by
 have th:∀ {i:Nat} {xs},xss[i]? = some xs->∃ T,A.ths[i]? = some T/\TWf n T/\AlO T (decide ((i:Int)∉fs)) xs:=λ{i xs} h=>by
  have hi:=Z2D
  have e:=ZCx
  exact⟨_,e,tw _ (FT e),O i _ xs e h⟩
 have W:∀ (i:Nat),i<A.many->(Z6N)[i]? = some (ns.filter λ n=>decide (n.1=(i:Int))):=λ i hi=>by
  unfold fB
  rw[FP,JR hi];rfl
 have V:(Z6N).length=A.many:=by unfold fB;rw[FO,Il]
 refine⟨lx,V,λ i xs h=>?_,λ i T xs J h y hy=>((O i T xs J h).iff y).mp hy,λ s U _ i xs h=>?_,λ k ms h=>?_,λ e Y=>.inl ?_⟩
 ·obtain⟨T,J,w,a⟩:=th h
  obtain⟨w0,ws,ew,_⟩:=w.hd
  exact⟨Ig ((a.2 w0).mpr (.inl ⟨w0,by rw[ew];exact FZ,Z0N⟩)),a.1⟩
 ·obtain⟨T,J,w,a⟩:=th h
  have hi:=Z2D
  have e:=FJ (l:=s) (i:=i) (by rw[U.1];lia)
  rw[dY e]
  exact(a.iff _).mpr (U.2 i T _ J e)
 ·have F:=Z2D
  rw[V] at F
  rw[W k F] at h
  cases h
  exact⟨List.Pairwise.filter _ as,λ m Z=>⟨GH (GG.mp Z).2,pm.mem_iff.mp (GG.mp Z).1⟩⟩
 ·obtain⟨l,hl,el,_⟩:=lk.tp e Y
  have r:=wf.rg l hl
  rw[el] at r
  obtain⟨k,F⟩:=Gr r.1
  refine⟨_,by rw[F,GB];exact W k Z1,GG.mpr ⟨pm.mem_iff.mpr (F4 Y),by rw[F];simp⟩⟩
end
theorem zN:∀ (ns:List Nm3) {k:Nat},ns.length<=k->((fB m ns).map List.length).sum<=k:=λ ns k h=>by
 refine Gd ?_ h
 unfold fB
 rw[GJ]
 clear h
 induction ns with
 | nil=>
  have:∀ j:Nat,((ZE8).map (List.length ∘ λ h:Nat=>([]:Z1L).filter λ n=>decide (n.1=(h:Int)))).sum=0:=λ j=>by
   induction j with
   | zero=>rfl
   | succ j O=>rw[Kl,F0,Kk,O];rfl
  rw[this m];exact Z8g
 | cons x r O=>
  have J:∀ j:Nat,((ZE8).map (List.length ∘ λ h:Nat=>(x::r).filter λ n=>decide (n.1=(h:Int)))).sum<=((ZE8).map (List.length ∘ λ h:Nat=>r.filter λ n=>decide (n.1=(h:Int)))).sum+(if 0<=x.1/\x.1<j then 1 else 0):=λ j=>by
   induction j with
   | zero=>simp
   | succ j F=>
    rw[Kl,F0,F0,Kk,Kk]
    simp only[Gq,Jh,List.sum_cons,List.sum_nil,Function.comp,Kb]
    rw[Ir]
    by_cases e:x.1=(j:Int)
    ·rw[FX (by rw[HR];exact e),GF,Z9V]
     rw[ZCu] at F
     lia
    ·rw[FV (by rw[HR];exact e)]
     by_cases q:0<=x.1/\x.1<j
     ·rw[ZKb] at F
      rw[Z9V]
      lia
     ·rw[ZKd] at F
      rw[ZCu]
      lia
  refine Gd (J m) ?_
  rw[GF]
  split<;>lia
theorem kept (J:H x=some Zb) (F:ZEI):∀ c o,H c=some o->(∀ zs,o≠.lst zs)->H' c=some o:=λ c o h n=>F c o (by rw[FL];exact λ z=>by rw[z,J] at h;exact ZKA) h
theorem De.but (h:Z7G) (V:H x=some Zb) (J:ZEI) (W:x≠D.al) (Y:x∉D.qs):ZJJ:=by
 have F:=kept V J
 have O:∀ c,c≠x->c∉[x]:=λ c n=>by rw[FL];exact n
 exact⟨F _ _ h.self (λ _ z=>by cases z),F _ _ h.po (λ _ z=>by cases z),F _ _ h.ta (λ _ z=>by cases z),⟨J _ _ (O _ (Ne.symm W)) h.lls.self,h.lls.len,h.lls.nd,h.lls.ne,λ i q xs a b=>J _ _ (O _ (λ z=>Y (by rw[<- z];exact FT a))) (h.lls.at' i q xs a b)⟩,λ l U=>F _ _ (h.lets l U) (λ _ z=>by cases z)⟩
theorem De.set (h:Z7G) (F:D.qs[k]? = some q) (U:xss[k]? = some xs) (O:ZEJ) (e:H' q=some (.lst (iV xs'))):De t H' D A (xss.set k xs'):=by
 have J:=kept (h.lls.at' k q xs F U) O
 have V:∀ c,c≠q->c∉[q]:=λ c n=>by rw[FL];exact n
 refine⟨J _ _ h.self (λ _ z=>by cases z),J _ _ h.po (λ _ z=>by cases z),J _ _ h.ta (λ _ z=>by cases z),⟨O _ _ (V _ (λ z=>h.lls.ne (by rw[z];exact FT F))) h.lls.self,by rw[Hm];exact h.lls.len,h.lls.nd,h.lls.ne,λ i c ys a b=>?_⟩,λ l W=>J _ _ (h.lets l W) (λ _ z=>by cases z)⟩
 by_cases z:k=i
 ·subst z
  rw[F8 (FK.mp U).1] at b
  cases b
  rw[F] at a;cases a
  exact e
 ·rw[Gk z] at b
  refine O _ _ (V _ λ y=>z ?_) (h.lls.at' i c ys a b)
  exact(Ht (l:=D.qs) (FK.mp F).1 h.lls.nd).mp (by rw[F,a,y])
theorem Lnm.but (h:ZBU) (O:H x=some Zb) (F:ZEI) (W:x≠l) (Y:x∉qs):ZJ3:=by
 have U:=kept O F
 have J:∀ c,c≠x->c∉[x]:=λ c n=>by rw[FL];exact n
 refine⟨F _ _ (J _ ZAr) h.self,h.len,h.nd,h.ne,λ i q Z a b=>?_⟩
 obtain⟨V,e,nm⟩:=h.at' i q Z a b
 exact⟨V,F _ _ (J _ (λ z=>Y (by rw[<- z];exact FT a))) e,nm.keep λ c xs e=>U _ _ e (λ _ z=>by cases z)⟩
theorem NmL.last (h:NmL H (ls++[v]) (ns++[n])):NmL H ls ns/\hX H v n:=by
 have e:=h.eq
 rw[F0,Ih] at e
 have F:=Kh e rfl
 have J:g8 H v=n:=by have:=F.2;cases this;rfl
 exact⟨⟨F.1,λ u O=>h.all u (Gy _ O)⟩,by rw[<- J];exact h.all v Z8⟩
theorem Lnm.pop (h:ZBU) (F:qs[k]? = some q) (Y:nss[k]? = some (ns++[n])) (Z:H q=some (.lst (ls++[v]))) (nm:NmL H (ls++[v]) (ns++[n])) (J:ZEJ) (e:H' q=some Z4d):Lnm H' l qs (nss.set k ns):=by
 have kd:=kept Z J
 have U:∀ c,c≠q->c∉[q]:=λ c n=>by rw[FL];exact n
 have tk:∀ c xs,H c=some ZU->H' c=some ZU:=λ c xs e=>kd _ _ e (λ _ z=>by cases z)
 refine⟨J _ _ (U _ (λ z=>h.ne (by rw[z];exact FT F))) h.self,by rw[Hm];exact h.len,h.nd,h.ne,λ i c ms a b=>?_⟩
 by_cases z:k=i
 ·subst z
  rw[F8 (FK.mp Y).1] at b
  cases b
  rw[F] at a;cases a
  exact⟨ls,e,nm.last.1.keep tk⟩
 ·rw[Gk z] at b
  obtain⟨O,V,W⟩:=h.at' i c ms a b
  refine⟨O,J _ _ (U _ λ y=>z ?_) V,W.keep tk⟩
  exact(Ht (l:=qs) (FK.mp F).1 h.nd).mp (by rw[F,a,y])
noncomputable def bsL (A:LoA):Zc:=(List.range A.many).map λ i:Nat=>A.b i
theorem pN {A:LoA}{i:Nat}(h:i<A.many):(bsL A)[i]? = some (A.b i):=by
 unfold bsL
 rw[FP,JR h];rfl
theorem Lo.bsl {G H:Hp}{L:LoL}{A:LoA}{n:Nat}(lo:Za) (fs:Zc):AlW A fs ZJj/\mI (cO ZJj) A.A:=by
 have F:∀ x:Int,0<=x->x<A.many->cO ZJj x=A.b x:=λ x h0 h1=>by
  obtain⟨i,rfl⟩:=Gr h0
  exact dY (pN ZC)
 refine⟨⟨by unfold bsL;rw[FO,Il],λ i T y J U=>?_⟩,λ l O e Y W V=>?_⟩
 ·have hi:=(FK.mp J).1
  rw[lo.c.len2] at hi
  rw[pN hi] at U;cases U
  exact .inl (lo.pts i T J)
 ·have r:=lo.wf.rg l O
  rw[F _ r.2.2.2.2.2.2.1 r.2.2.2.2.2.2.2] at V
  rw[F _ r.1 r.2.1]
  exact lo.snd l O e Y W V
def En (K:W.Frag) (t:Adr):Sp:=λ vs H Q _=>∃ G L A n f fs,vs=[Zk,Z7H]/\Lo K t G H L A n/\n<=30/\SqL K H f ZAg /\
 ∀ p l pa ln ls ns H',cG H H'->H l=none->H' p=some (.tup [Z3G,ZJO])->H' l=some ZHX->H' pa=some Z4d->NmL H' ls ns->Gl A fs ln->Q Zs H'
theorem yE (T:ZJ):dk P w K mg base ZM 7 t.f_bf t.fd_bf ["loom","fallen"] (En K t):=by
 refine T.F_bf.okN km Z6 ZB
 ·obtain⟨G,L,A,n,f,fs,rfl,_⟩:=h;rfl
 ·obtain⟨G,L,A,n,f,fs,rfl,lo,hn,hf,k⟩:=h
  refine⟨_,(cD (cV (i:=2) km.nd rfl Z5 (fI T.mk_Descent (DR (K:=K) T) Z0 rfl T.mg_Descent T.b_bp .nil cH (cF ZX Zf)))
   (cD (cV (i:=3) km.nd rfl Z5 (cU (Cp (K:=K) T) Z0 rfl T.mg_br T.kp_br T.b_br .nil cH Z5N))
   (cD (cV (i:=4) km.nd rfl Z5 Z2g)
   (cD Z0K
   (cD (oV PassesOwn.never (cZ mP Z1O iU Z0Z)
    (cD (cV (i:=6) km.nd rfl Z5 (mE (K:=K) F5 PySem.F.slot_list_pop PySem.F.type_list_pop wc (cY ZR Z1E Z1O ZA)))
   (cD (dy (dN (cW ZV T.cl_Descent T.me_ad (E9 (K:=K) T) Z0 T.b_ad .nil cH Z1r))
    (cD (dy (eE (dN (cW ZV T.cl_Descent T.me_al (BF (K:=K) T) Z0 T.b_al .nil cH Z1r)))
    ZAm
    da)
   (cD (cR (cW ZV T.cl_Descent T.me_bq (CN (K:=K) T) Z0 T.b_bq .nil cH Z1r))
   (cE (cR (dQ (K:=K) F5 Gj Gi dA Z1F Z1r)))))
    da)
   (cE Z0K))))
   (cE (cQ (eC (cF (cX ZV T.cl_Descent T.me_ar ZMV Z0 T.b_ar .nil cH) Z3a))))))))),?_⟩
  refine Z16
  have m2:=lo.m2
  have tb:=lo.ta hn
  have sm:=tb.2
  obtain⟨aw0,sd0⟩:=ZIS
  refine⟨_,rfl,_,rfl,λ d dx nd ndx nex=>?_⟩
  have s1:=cG.ins (o:=ZDY) nd ndx
  refine⟨H,G,L,A,n,f,fs,d,dx,rfl,s1,nd,cy,lo,hn,hf,λ D xss H2 ed s2 fq de lx al=>Z2k⟩
  refine(sn ee1 λ rr2 ee2=>?_:Z5E)
  subst ed
  refine⟨_,rfl,G,L,A,n,rfl,Z6f,hn,λ u us ns H3 s3 nu fus ll as pm=>?_⟩
  refine(sn ee2 λ rr3 ee3=>?_:Z6H)
  have iv:=Iv.start lo.c.len2 lo.tw lo.wf lo.lk lx al as pm
  have l90:((Z6N).map List.length).sum<=90:=zN ns (by rw[pm.length_eq,FO];have:=tb.1;omega)
  have de3:=de.same s3
  refine⟨Z4,λ pa npa=>?_⟩
  have s4:=cG.new (o:=Zr) npa
  have epa:=cy (H:=H3) (a:=pa) (o:=Zr)
  generalize upd H3 pa (.lst [])=H4 at s4 epa ⊢
  have de4:=de3.same s4
  have ll4:=ll.same s4
  have s04:=ZKv
  have npa0:H pa=none:=(Z9z).free npa
  have nus:∀ q∈us,q∉D.qs/\q≠D.al/\H q=none:=λ q hq=>by
   have h:=fus q hq
   refine⟨λ z=>?_,λ z=>?_,s2.free h⟩
   ·obtain⟨j,hj,e⟩:=Gm z
    have:=de.lls.at' j q _ (by rw[<- e];exact ZJF) (FJ (by rw[<- de.lls.len];exact hj))
    rw[h] at this;cases this
   ·rw[z,de.lls.self] at h;cases h
  have uqs:u∉D.qs/\u≠D.al:=by
   refine⟨λ z=>?_,λ z=>?_⟩
   ·obtain⟨j,hj,e⟩:=Gm z
    have:=de.lls.at' j u _ (by rw[<- e];exact ZJF) (FJ (by rw[<- de.lls.len];exact hj))
    rw[nu] at this;cases this
   ·rw[z,de.lls.self] at nu;cases nu
  have paq:pa∉D.qs/\pa≠D.al/\pa∉us/\pa≠u:=by
   refine⟨λ z=>?_,λ z=>?_,λ z=>?_,λ z=>?_⟩
   ·obtain⟨j,hj,e⟩:=Gm z
    have:=de3.lls.at' j pa _ (by rw[<- e];exact ZJF) (FJ (by rw[<- de.lls.len];exact hj))
    rw[npa] at this;cases this
   ·rw[z,de3.lls.self] at npa;cases npa
   ·obtain⟨j,hj,e⟩:=Gm z
    obtain⟨ls,this,_⟩:=ll.at' j pa _ (by rw[<- e];exact ZJF) (FJ (by rw[<- ll.len];exact hj))
    rw[npa] at this;cases this
   ·rw[z,ll.self] at npa;cases npa
  have nex':∀ {xss:List (List Int)} {nss:List (List Nm3)},Iv A fs xss nss->∀ xs∈xss,xs≠[]:=λ{xss nss} v xs hx=>by
   obtain⟨i,hi,e⟩:=Gm hx
   exact(v.p1 i xs (by rw[<- e];exact ZCw)).1
  have snd:∀ {xss:List (List Int)} {nss:List (List Nm3)},Iv A fs xss nss->∀ (h:Nat) ns,nss[h]? = some ns->∀ n∈ns,n.1=(h:Int):=λ{xss nss} v h ns e n hn=>((v.n1 h ns e).2 n hn).1
  refine(sn ee3 λ rr4 ee4=>?_:ZA1)
  refine⟨_,rfl,_,rfl,D.d,D.dx,_,rfl,de4.self,rfl,D,A.A,xss,rfl,de4,ZC,nex' iv,λ l5 H5 s5 nl5 el5=>?_⟩
  refine⟨u,us,_,l5,ZBs,rfl,ll4.same s5,SqL.of el5,by rw[FO,iv.lx,iv.ln],by rw[iv.ln];omega,snd iv,λ sv H6 s6 sg=>?_⟩
  have s46:=s5.trans s6
  refine(sn ee4 λ rr5 ee5=>?_:ZA0)
  refine⟨λ m σ H'=>∃ xss nss ls ns' v o,m=(Z1e).sum/\Iv A fs xss nss/\De t H' D A.A xss/\Lnm H' u us nss/\H' pa=some Z4d/\NmL H' ls ns'/\ls.length+(Z1e).sum<=90/\cG H H'/\SgO nss Z0O v/\σ=[ZE,Z32,Z4I,Z7x,some ZJO,ZGA,o],⟨_,xss,_,[],[],sv,_,rfl,iv,de4.same s46,ll4.same s46,s46 _ _ epa,.nil,by simpa using l90,s04.trans s46,sg,rfl⟩,?_⟩
  rintro m σ H7 ⟨xss,nss,ls,ns',v,o,rfl,iv,de,ll,hpa,nmp,l90,s7,sg,rfl⟩
  refine⟨_,rfl,rfl,_,rfl,Z0W⟩
  ·rcases sg with ⟨h,ms,x,rfl,hh,lt⟩|⟨rfl,_⟩
   rotate_left
   ·exact absurd z Z4
   have hlt:h<A.many:=by have:=(FK.mp hh).1;rw[iv.ln] at this;exact this
   obtain⟨q,hq⟩:∃ q,us[h]? = some q:=⟨_,FJ (by rw[ll.len,iv.ln];exact hlt)⟩
   obtain⟨ls1,eq1,nm1⟩:=ll.at' h q _ hq hh
   have nl1:ls1≠[]:=λ y=>by have:=nm1.len;rw[y] at this;simp at this
   obtain⟨ks,w0,rfl⟩:=fS nl1
   obtain⟨b,rfl,hb⟩:=nm1.last.2
   obtain⟨e,he,ee⟩:=F2.mp ((iv.n1 h _ hh).2 x Z8).2
   have xh:x.1=(h:Int):=snd iv h _ hh x Z8
   have qin:=FT hq
   have atq:atI ZDn (h:Int)=some (Z2P):=dW (by rw[FP,hq];rfl)
   refine⟨λ σ2 H2=>∃ m',m'<(Z1e).sum/\∃ xss nss ls ns' v o,m'=(Z1e).sum/\Iv A fs xss nss/\De t H2 D A.A xss/\Lnm H2 u us nss/\H2 pa=some Z4d/\NmL H2 ls ns'/\ls.length+(Z1e).sum<=90/\cG H H2/\SgO nss Z0O v/\σ2=[ZE,Z32,Z4I,Z7x,some ZJO,ZGA,o],λ _ _ h=>h,?_⟩
   refine⟨_,rfl,_,rfl,u,_,_,_,rfl,rfl,ZBT,atq,.inl ⟨rfl,_,SqL.of eq1⟩,q,_,Zj,rfl,rfl,eq1,by rw[FQ,F6,Nat.add_sub_cancel,Gh Z9,Hs];rfl,?_⟩
   rw[List.dropLast_concat]
   have b8:But [q] H7 (upd H7 q (.lst ks)):=λ c o n e=>by rw[cz (by simpa using n)];exact e
   have eq8:=cy (H:=H7) (a:=q) (o:=.lst ks)
   generalize upd H7 q (.lst ks)=H8 at b8 eq8 ⊢
   have kd8:=kept eq1 b8
   have tk8:∀ c xs,H7 c=some ZU->H8 c=some ZU:=λ c xs e=>kd8 _ _ e (λ _ z=>by cases z)
   have de8:=de.but eq1 b8 (ZIP).2.1 (ZIP).1
   have ll8:=ll.pop hq hh eq1 nm1 b8 eq8
   have hpa8:H8 pa=some Z4d:=b8 _ _ (by rw[FL];exact λ z=>paq.2.2.1 (by rw[z];exact qin)) hpa
   have nmp8:=nmp.keep tk8
   have hb8:=tk8 _ _ hb
   have s8:cG H H8:=λ c o e=>b8 _ _ (by rw[FL];exact cB e (ZIP).2.2) ZLB
   have sms:=sum_set hh
   rw[<- ee] at hb8
   have few:xss.length<=5:=by rw[iv.lx];omega
   obtain⟨l,hl,el,_⟩:=ZCh
   have r:=ZLJ
   have db8:DeB t H8 D A.A xss A.many b e l:=⟨de8,lo.wf.nd,lo.wf.nt,iv.lx,m2.2,nex' iv,he,hl,el,by rw[<- el];exact⟨r.1,r.2.1⟩,r.2.2.2.2.2.2,hb8⟩
   refine tm ZL de8.self rfl Zd ⟨D,A.A,xss,A.many,b,e,l,rfl,db8,λ H9 s9=>⟨_,rfl,Z5G⟩⟩
   ·have us':e.2<=cO Z0O l.to/\¬ e.1.2.1<=cO Z0O e.1.1:=by
     rw[Hg,Bool.not_eq_true',GA,Ju] at z2;exact z2
    obtain⟨j,hj⟩:=Gr r.2.2.2.2.2.2.1
    have jlt:j<A.many:=ZC
    obtain⟨xs,hx⟩:∃ xs,xss[j]? = some xs:=⟨_,FJ (by rw[iv.lx];exact jlt)⟩
    obtain⟨ne0,asc⟩:=iv.p1 j xs hx
    have ah:=iv.ahead lo.wf he hl el hj hx us'.2 aw0 sd0
    have iv11:=iv.step lo.wf he hl el (by rw[ee];exact hh) hj hx us'.2 aw0 sd0
    obtain⟨x0,r0,rfl⟩:=List.exists_cons_of_ne_nil ne0
    have x0lt:x0<e.2:=by
     have h1:=(GG.mp ah)
     have h2:=GH h1.2
     rcases FR.mp h1.1 with y|y
     ·omega
     ·have:=(Ie.mp asc).1 _ y;omega
    obtain⟨qk,hqk⟩:∃ q,D.qs[j]? = some q:=⟨_,FJ (by rw[de8.lls.len,iv.lx];exact jlt)⟩
    have tj:l.to.toNat=j:=by rw[hj,GB]
    have db9:=db8.same s9
    have de9:=db9.de
    have hb9:=db9.hb
    have qkin:=FT hqk
    refine tm ZL de9.self rfl Zd ⟨D,A.A,xss,A.many,b,e,l,x0,r0,rfl,db9,by rw[tj];exact hx,_,rfl,eA (by rw[Gg x0lt];rfl) ?_⟩
    refine tm ZL de9.self rfl Zd ⟨D,A.A,xss,A.many,b,e,l,x0,r0,qk,rfl,db9,by rw[tj];exact hx,by rw[tj];exact hqk,asc,x0lt,λ H10 b10 e10=>?_⟩
    have hqk9:=de9.lls.at' j qk _ hqk hx
    have kd10:=kept hqk9 b10
    have tk10:∀ c xs,H9 c=some ZU->H10 c=some ZU:=λ c xs e=>kd10 _ _ e (λ _ z=>by cases z)
    have de10:=de9.set hqk hx b10 e10
    have ll10:=(ll8.same s9).but hqk9 b10 (λ z=>uqs.1 (by rw[<- z];exact qkin)) (λ z=>(nus qk z).1 qkin)
    have hpa10:H10 pa=some Z4d:=b10 _ _ (by rw[FL];exact λ z=>paq.1 (by rw[z];exact qkin)) (s9 _ _ hpa8)
    have nmp10:=(nmp8.same s9).keep tk10
    have s10:cG H H10:=λ c o e=>b10 _ _ (by rw[FL];exact cB e (fq qk qkin)) (s9 _ _ (s8 _ _ e))
    refine⟨_,rfl,.inl ⟨rfl,_,SqL.of hpa10⟩,_,rfl,pa,ls,Zj,rfl,rfl,hpa10,dc ZC,?_⟩
    have b11:But [pa] H10 (upd H10 pa (.lst (ls++[Zj]))):=λ c o n e=>by rw[cz (by simpa using n)];exact e
    have epa11:=cy (H:=H10) (a:=pa) (o:=.lst (ls++[Zj]))
    generalize upd H10 pa (.lst (ls++[.ref b]))=H11 at b11 epa11 ⊢
    have kd11:=kept hpa10 b11
    have tk11:∀ c xs,H10 c=some ZU->H11 c=some ZU:=λ c xs e=>kd11 _ _ e (λ _ z=>by cases z)
    have de11:=de10.but hpa10 b11 paq.2.1 paq.1
    have ll11:=ll10.but hpa10 b11 paq.2.2.2 paq.2.2.1
    have nmp11:=(nmp10.snoc ⟨b,rfl,tk10 _ _ hb9⟩).keep tk11
    have s11:cG H H11:=λ c o e=>b11 _ _ (by rw[FL];exact cB e npa0) (s10 _ _ e)
    refine⟨_,rfl,_,rfl,D.d,D.dx,_,rfl,de11.self,rfl,D,A.A,_,rfl,de11,by rw[Hm];exact few,nex' iv11,λ l12 H12 s12 nl12 el12=>?_⟩
    refine⟨u,us,_,l12,_,rfl,ll11.same s12,SqL.of el12,by rw[FO,iv11.lx,iv11.ln],by rw[iv11.ln];omega,snd iv11,λ sv H13 s13 sg=>?_⟩
    have s1113:=ZLF
    exact⟨_,sms,_,_,_,_,_,_,rfl,iv11,de11.same s1113,ll11.same s1113,s1113 _ _ epa11,nmp11.same s1113,by rw[FQ,F6];omega,s11.trans s1113,sg,rfl⟩
   ·have sf:¬ e.1.2.1<=cO Z0O e.1.1:=by
     rw[ee,xh]
     omega
    have uf:cO Z0O l.to<e.2:=by
     rw[Hg,Bool.not_eq_true',GA,Ju] at z2
     exact Int.lt_of_not_ge λ y=>z2 ⟨y,sf⟩
    have iv9:=iv.pop hh λ d hd ed l' hl' el'=>by
     have:d=e:=jr lo.wf.nt hd he (ed.trans ee.symm)
     have e2:l'=l:=fW lo.wf.nd hl' hl (el'.trans (ee.symm.trans el.symm))
     rw[this,e2];exact uf
    have de9:=de8.same s9
    refine⟨_,rfl,_,rfl,D.d,D.dx,_,rfl,de9.self,rfl,D,A.A,_,rfl,de9,few,nex' iv9,λ l12 H12 s12 nl12 el12=>?_⟩
    refine⟨u,us,_,l12,_,rfl,(ll8.same s9).same s12,SqL.of el12,by rw[FO,iv9.lx,iv9.ln],by rw[iv9.ln];omega,snd iv9,λ sv H13 s13 sg=>?_⟩
    have s913:=ZLF
    have s813:=s9.trans s913
    exact⟨_,sms,_,_,_,_,_,_,rfl,iv9,de9.same s913,ll8.same s813,s813 _ _ hpa8,nmp8.same s813,ZC,s8.trans s813,sg,rfl⟩
  ·rcases sg with ⟨h,ms,x,rfl,hh,lt⟩|⟨rfl,nn⟩
   ·exact absurd Z8 z
   subst ee5
   refine⟨_,rfl,D.d,D.dx,_,rfl,de.self,rfl,D,A.A,xss,rfl,de,by rw[iv.lx];omega,nex' iv,λ l8 H8 s8 nl8 el8=>⟨_,rfl,by show 2<=sizeLine;decide,λ p np=>?_⟩⟩
   have s9:=cG.new (o:=.tup [.ref l8,ZJO]) np
   exact k p l8 pa _ ls ns' _ ((s7.trans s8).trans s9) (s7.free nl8) cy (s9 _ _ el8) (s9 _ _ (s8 _ _ hpa)) (nmp.same (s8.trans s9)) (iv.done lo.wf sm nn)
theorem fD.trans' (a:ZDt) (s:cG H H1) (b:ZKL):fD H G G2 H2:=⟨a.sub.trans b.sub,b.held,λ c o e=>(b.new c o e).elim (a.new c o) λ z=>.inr (s.free z)⟩
theorem fD.put (a:ZDt) (n:G1 c=none):fD H G G1 (upd H1 c o):=⟨a.sub,λ b u e=>by rw[cz (cB e n)];exact a.held _ _ e,a.new⟩
theorem Di.Dr {G H H':Hp}{L:DiL}{A:DiA}{n:Nm3}{pl:Int}(d:Z4E) (h1:H' L.ta=some (.dT ((A.ta.map λ e=>(Z1J,Z0Y))++[(Z6L,V.int pl)]))) (bt:But [L.ta] H H'):Di G H' L { A with ta:=A.ta++[(n,pl)] }:=by
 obtain⟨n1,n2,n3,n4,_⟩:=d.nes
 have nn:∀ b,b≠L.ta->b∉[L.ta]:=λ b h=>by rw[FL];exact h
 exact⟨bt _ _ (nn _ n1) d.po,by rw[h1,F0];rfl,bt _ _ (nn _ (Ne.symm n3)) d.wy,λ e he=>bt _ _ (nn _ (n4 e he).2.1) (d.ways e he),d.lets,bt.same d.held λ b hb=>by rw[FL] at hb;rw[hb];exact d.gn _ (by unfold DiL.own;simp),d.nd,d.gn⟩
def Bef (i k h p:Nat):Prop:=h<i\/(h=i/\p<k)
structure TaI (ths:List ThA) (i k:Nat) (ta:List (Nm3×Int)):Prop where
 nd:(ta.map (·.1)).Nodup
 u1:∀ e∈ta,∃ h p:Nat,Bef i k h p/\e.2=(p:Int)+1/\Used ths h p e.1
 u2:∀ h p n,Bef i k h p->Used ths h p n->(n,(p:Int)+1)∈ta
 few:ta.length<=30*i+k
structure PoI (ths:List ThA) (i k:Nat) (po:List fk):Prop where
 s1:∀ l∈po,∃ h p q:Nat,Bef i k h p/\l.nm=nm3 h p q/\pL ths h p q (l.to,l.wd)
 s2:∀ h p q x,Bef i k h p->pL ths h p q x->∃ l∈po,l.nm=nm3 h p q/\(l.to,l.wd)=x
 few:po.length<=90*i+3*k
structure RkO (m:Nat) (ths:List ThA):Prop where
 m5:m<=5
 en:∀ T∈ths,T.evs.length<=30
 fn:∀ h p h' p' n,Used ths h p n->Used ths h' p' n->h=h'/\p=p'
 rg:∀ h p q x,pL ths h p q x->0<=x.1/\x.1<m
section
variable {ths:List ThA}{i k:Nat}{T:ThA}{E:EvA}
theorem fN:Bef i (k+1) h p↔Bef i k h p\/(h=i/\p=k):=by unfold Bef;lia
theorem TaI.skip (v:ZKT) (O:ths[i]? = some T) (J:T.evs[k]? = some E) (V:E.u=none):TaI ths i (k+1) ta:=by
 refine⟨v.nd,λ e U=>?_,λ h p n b u=>?_,by have:=v.few;lia⟩
 ·obtain⟨h,p,b,z⟩:=v.u1 e U
  exact Z9x
 ·rcases fN.mp b with b|⟨rfl,rfl⟩
  ·exact v.u2 h p n b u
  ·obtain⟨T',W,h1,h2,F⟩:=u
   rw[O] at h1;cases h1
   rw[J] at h2;cases h2
   rw[V] at F;cases F
theorem TaI.add (v:ZKT) (rk:ZE3) (Y:ths[i]? = some T) (W:T.evs[k]? = some E) (Z:E.u=some n):n∉ta.map (·.1)/\TaI ths i (k+1) (ta++[(n,(k:Int)+1)]):=by
 have J:Used ths i k n:=⟨T,E,Y,W,Z⟩
 have O:n∉ta.map (·.1):=λ z=>by
  obtain⟨e,F,rfl⟩:=ZCy
  obtain⟨h,p,b,_,u⟩:=v.u1 e F
  obtain⟨rfl,rfl⟩:=rk.fn _ _ _ _ _ u J
  unfold Bef at b;lia
 refine⟨O,?_,λ e F=>?_,λ h p n' b u=>?_,by have:=v.few;rw[FQ,F6];lia⟩
 ·rw[F0]
  refine GP.mpr ⟨v.nd,Ze,λ a ha b hb z=>O ?_⟩
  have U:b=n:=by simpa using hb
  rw[<- U,<- z];exact ha
 ·rcases FY.mp F with F|F
  ·obtain⟨h,p,b,z⟩:=v.u1 e F
   exact Z9x
  ·rw[FL] at F
   subst F
   exact⟨i,k,fN.mpr ZD3,rfl,J⟩
 ·rcases fN.mp b with b|⟨rfl,rfl⟩
  ·exact Gy _ (v.u2 h p n' b u)
  ·obtain⟨T',E',h1,h2,V⟩:=u
   rw[Y] at h1;cases h1
   rw[W] at h2;cases h2
   rw[Z] at V;cases V
   exact Z8h
theorem jc (rk:ZE3) (F:ths[i]? = some T) (h1:ths[h]? = some T') (h2:T'.evs[p]? = some E'):Bef i T.evs.length h p↔Bef (i+1) 0 h p:=by
 have:=Z6b
 constructor
 ·unfold Bef;lia
 ·intro b
  unfold Bef at b ⊢
  by_cases z:h=i
  ·subst z
   rw[F] at h1;cases h1
   lia
  ·lia
theorem TaI.hand (v:TaI ths i T.evs.length ta) (rk:ZE3) (O:ths[i]? = some T):TaI ths (i+1) 0 ta:=by
 have:=ZK9
 have f:=v.few
 refine⟨v.nd,λ e U=>?_,λ h p n b u=>?_,Z1⟩
 ·obtain⟨h,p,b,z,T',F,h1,h2,J⟩:=v.u1 e U
  exact⟨h,p,(Z80).mp b,z,T',F,h1,h2,J⟩
 ·obtain⟨T',F,h1,h2,J⟩:=u
  exact v.u2 h p n ZN4 ZG8
theorem PoI.hand (v:PoI ths i T.evs.length po) (rk:ZE3) (O:ths[i]? = some T):PoI ths (i+1) 0 po:=by
 have:=ZK9
 have f:=v.few
 refine⟨λ l U=>?_,λ h p q x b s=>?_,Z1⟩
 ·obtain⟨h,p,q,b,z,T',F,h1,h2,J⟩:=v.s1 l U
  exact⟨h,p,q,(Z80).mp b,z,T',F,h1,h2,J⟩
 ·obtain⟨T',F,h1,h2,J⟩:=s
  exact v.s2 h p q x ZN4 ZG8
theorem PoI.add (v:PoI ths i k po) (U:ths[i]? = some T) (O:T.evs[k]? = some E) (V:E.se=xs.map (·.2)) (W:xs.length<=3):PoI ths i (k+1) (po++lets i ((k:Int)+1) xs):=by
 refine⟨λ l F=>?_,λ h p q x b s=>?_,?_⟩
 ·rcases FY.mp F with F|F
  ·obtain⟨h,p,q,b,z⟩:=v.s1 l F
   exact⟨h,p,q,fN.mpr (.inl b),z⟩
  ·obtain⟨q,x,z,rfl⟩:=hR.mp F
   exact⟨i,k,q,fN.mpr ZD3,rfl,T,E,U,O,by rw[V,FP,z];rfl⟩
 ·rcases fN.mp b with b|⟨rfl,rfl⟩
  ·obtain⟨l,F,y⟩:=v.s2 h p q x b s
   exact⟨l,Gy _ F,y⟩
  ·obtain⟨T',Z,h1,h2,J⟩:=s
   rw[U] at h1;cases h1
   rw[O] at h2;cases h2
   rw[V,FP] at J
   obtain⟨Y,e,rfl⟩:=Gs.mp J
   exact⟨_,Gf _ (hR.mpr ⟨q,Y,e,rfl⟩),rfl,rfl⟩
 ·have:=v.few
  rw[FQ]
  unfold lets
  rw[Jk];lia
end
def rB (K:W.Frag) (t:Adr) (G:Hp) (ls:Zq) (ths:Z3d):Prop:=∀ (j:Nat) l T,ls[j]? = some l->ths[j]? = some T->∃ es,G l=some Z6c/\jX K t G es T.evs
theorem rB.same (h:rB K t G ls ths) (s:Z7Y):rB K t G' ls ths:=λ j l T a b=>let ⟨es,e,v⟩:=h j l T a b;⟨es,Z6G,v.same s⟩
def CI (K:W.Frag) (t:Adr):Sp:=λ vs H Q _=>∃ G L A,vs=[Zk]/\LoC K t G H L A/\RkO A.many A.ths /\
 ∀ G' H' D ta po A',But ZIq H H'->(∀ b∈D.own A',H b=none)->LoC K t G' H' { L with D:=D } { A with A:=A' }->WfD A.many ZDw A'->A'.ta=ta->A'.po=po->TaI A.ths A.many 0 ta->PoI A.ths A.many 0 po->A'.wy.length<=po.length->(∀ b,H b≠none->G b=none->G' b=none)->Q .non H'
theorem BR (T:ZJ):dk P w K mg base ZM 5 t.f_af t.fd_af ["self"] (CI K t):=by
 refine T.F_af.okN i4 Z6 ZB
 ·obtain⟨G,L,A,rfl,_⟩:=h;rfl
 ·obtain⟨G,L,A,rfl,c,rk,k⟩:=h
  refine⟨_,(cD Z1Q
   (cD Z1Q
   (cD Z1Q
   (cD (fF ["self","told","events","place","event","hand","thread"] 1 (i:=1) rfl i4.nd rfl Z5 Z1W (λ _ _ _ _ _=>⟨(cN (i:=6) (show List.Nodup (["self","told","events","place","event","hand","thread"]:ZT) from by decide +kernel) rfl Z5),dG,(cX Z5y T.cl_Thread T.me_bc ZML Z0 T.b_bc .nil cH)⟩))
   (cD (dI PassesOwn.never rfl ZKs ZCR
    (cE (dI PassesOwn.never rfl Z7s Z20
    (cE (dy (cZ mP Z7l iU Z0Z)
    (cE (j6 Z1H Z2 Z7l Z1E rfl))
    da)))))
   (cE (dI PassesOwn.never rfl (gs (K:=K) rfl T.no_enumerate Zf) (eJ (K:=K) rfl (dh (cN (i:=5) i4.nd rfl Z5) (dh ZCR eM)))
    (cE (dI PassesOwn.never rfl Z7s Z20
    (cE (cR (cW ZX T.cl_Loom T.me_dc ZMM Z0 T.b_dc .nil cH (cF Z1O (cF Z1E (cF Z7l cC))))))))))))))),?_⟩
  refine Z16
  have m5:=rk.m5
  refine λ po hpo=>⟨_,rfl,L.p,_,L.dx,_,rfl,by rw[cz (cB c.self hpo)];exact c.self,T.cl_Loom,T.na_co,by show 8<1000;decide,?_⟩
  obtain⟨k1,e1,ne1⟩:=iW (o:=Z2W) (o':=.ins t.c_Loom L.dx (cL "posted" (Z7c) Z0F)) c.self hpo
  have hp1:upd (upd H po Z2W) L.p (.ins t.c_Loom L.dx (cL "posted" (Z7c) Z0F)) L.p=some (.ins t.c_Loom L.dx Z0u):=cy
  generalize upd (upd H po (.dT [])) L.p (.ins t.c_Loom L.dx (cL "posted" (.ref po) (loF L.dz A.many A.ord L.lt L.lg L.D)))=H1 at k1 e1 hp1 ⊢
  refine(sn ee1 λ rr2 ee2=>?_:Z5E)
  refine λ ta hta=>⟨_,rfl,L.p,_,L.dx,_,rfl,by rw[cz (cB hp1 hta)];exact hp1,T.cl_Loom,T.na_da,by show 8<1000;decide,?_⟩
  obtain⟨k2,e2,ne2⟩:=iW (o:=Z2W) (o':=.ins t.c_Loom L.dx (cL "taken" (Z55) Z0u)) hp1 hta
  have hp2:upd (upd H1 ta Z2W) L.p (.ins t.c_Loom L.dx (cL "taken" (Z55) Z0u)) L.p=some (.ins t.c_Loom L.dx Z17):=cy
  generalize upd (upd H1 ta (.dT [])) L.p (.ins t.c_Loom L.dx (cL "taken" (.ref ta) (loF L.dz A.many A.ord L.lt L.lg ⟨po,L.D.ta,L.D.wy⟩)))=H2 at k2 e2 hp2 ⊢
  refine(sn ee2 λ rr3 ee3=>?_:Z6H)
  refine λ wy hwy=>⟨_,rfl,L.p,_,L.dx,_,rfl,by rw[cz (cB hp2 hwy)];exact hp2,T.cl_Loom,T.na_dl,by show 8<1000;decide,?_⟩
  obtain⟨k3,e3,ne3⟩:=iW (o:=Z2W) (o':=.ins t.c_Loom L.dx (cL "ways" (ZJM) Z17)) hp2 hwy
  have hp3:upd (upd H2 wy Z2W) L.p (.ins t.c_Loom L.dx (cL "ways" (ZJM) Z17)) L.p=some (.ins t.c_Loom L.dx (loF L.dz A.many A.ord L.lt L.lg Z1T)):=cy
  generalize upd (upd H2 wy (.dT [])) L.p (.ins t.c_Loom L.dx (cL "ways" (.ref wy) (loF L.dz A.many A.ord L.lt L.lg ⟨po,ta,L.D.wy⟩)))=H3 at k3 e3 hp3 ⊢
  refine(sn ee3 λ rr4 ee4=>?_:ZA1)
  have up:∀ b o,b≠L.p->H b=some o->H3 b=some o:=λ b o n e=>k3 b o n (k2 b o n (k1 b o n e))
  have ta0:H ta=none:=by
   cases e:H ta with
   | none=>rfl
   | some o=>rw[k1 _ _ ne2 e] at hta;cases hta
  have wy0:H wy=none:=by
   cases e:H wy with
   | none=>rfl
   | some o=>rw[k2 _ _ ne3 (k1 _ _ ne3 e)] at hwy;cases hwy
  have fr0:∀ b∈[po,ta,wy],H b=none:=λ b hb=>by
   simp only[FR,FU,Ga] at hb
   rcases hb with rfl|rfl|rfl
   ·exact hpo
   ·exact ta0
   ·exact wy0
  have pt:po≠ta:=λ y=>by rw[y] at e1;rw[hta] at e1;cases e1
  have pw:po≠wy:=λ y=>by have:=ZLM;rw[y,hwy] at this;cases this
  have tw':ta≠wy:=λ y=>by rw[y] at e2;rw[hwy] at e2;cases e2
  have gp:=Z61
  have held3:cG G H3:=λ b o e=>up b o (cB e gp) (c.held _ _ e)
  have c3:LoC K t G H3 { L with D:=Z2o} { A with A:=ZIH}:=by
   refine c.yD (λ b o n e=>up b o (λ z=>n (by rw[z];exact FZ)) e) hp3 ⟨k3 _ _ ne1 ZLM,k3 _ _ ne2 e2,e3,(λ e he=>by cases he),(λ l hl=>by cases hl),held3,?_,λ b hb=>c.held.free (fr0 b (by simpa [DiL.own] using hb))⟩
   show ([po,ta,wy]++([]:Zq)).Nodup
   simp only[Gx,GX,FR,FU,Ga,Hz,Jp,IT,and_true]
   exact ZDk
  have lts:(Z03).length=A.many:=by rw[FO,c.len1]
  refine⟨_,rfl,L.p,_,L.dx,_,_,rfl,hp3,T.cl_Loom,T.na_bx,rfl,L.lt,rfl,⟨_,SqL.of c3.tl⟩,dU (xs:=Z03) ZC λ acc hacc=>⟨λ i σ2 ys H2=>(∃ G2,∃ ls:List Addr,ls.length=i/\ys=ls.map V.ref/\H2 acc=some Zb/\cG H3 H2/\fD H3 G G2 H2/\G2 acc=none/\rB K t G2 ls A.ths)/\∃ o,σ2=[ZE,none,none,none,none,none,o],⟨⟨G,[],rfl,rfl,cy,ZAB,⟨Z3F,held3.trans ZAB,λ _ _ e=>ZAa⟩,held3.free hacc,(λ j l T e=>by simp at e)⟩,_,rfl⟩,?_,?_,?_⟩⟩
  ·rintro i σ2 ys H4 hi ⟨⟨G2,ls,len,rfl,e4,s4,_⟩,_⟩
   exact⟨SqL.of (s4 _ _ c3.tl),by rw[FO];omega⟩
  ·rintro i v σ2 ys H4 hi hx ⟨⟨G2,ls,len,rfl,e4,s4,g4,ga,tol⟩,o,rfl⟩
   rw[FP] at hx
   obtain⟨q,hq,rfl⟩:=ZCs
   obtain⟨T0,hT,th⟩:=c3.zK hq
   have hT:A.ths[i]? = some T0:=hT
   obtain⟨es,hd,evs⟩:=th.done
   dsimp only[eh,gy]
   refine fC (tm ZL ZK8 rfl .nil ⟨G2,q.p,q.dx,_,q.ha,q.dn,q.wr,_,es,T0.evs,rfl,g4.held,ZK8,s4 _ _ hd,evs.same g4.sub,by rw[evs.1];have:=Z9O;omega,λ G' H' l es' g5 s5 nl el gl ev' _=>?_⟩)
   have nacc:l≠acc:=λ z=>by rw[z,e4] at nl;cases nl
   have ga':G' acc=none:=g5.free (by rw[e4];simp) ga
   refine⟨ZIK,Nx.mk hi ⟨⟨upd G' l (.lst es'),ls++[l],by rw[FQ,len];rfl,by rw[F0];rfl,cy,λ b u z=>by rw[ZBQ];exact s5 _ _ (s4 _ _ z),fD.put ((fD.trans' g4 s4 g5).freeze (s4.free nl) el) (by rw[ZH1];exact ga'),by rw[ZH1];exact ga',λ j l' T' h1 h2=>?_⟩,_,rfl⟩⟩
   rcases eQ h1 with h1|⟨e,rfl⟩
   ·exact(tol.same (g5.sub.trans (cG.new gl))) j l' T' h1 h2
   ·rw[e,len,hT] at h2;cases h2
    exact⟨es',cy,ev'.same (cG.new gl)⟩
  rintro σ2 ys H4 ⟨⟨G4,ls,len,rfl,e4,s4,g4,ga,tol⟩,o,rfl⟩
  rw[lts] at len
  have g5:=g4.freeze hacc e4
  have tol5:=tol.same (cG.new (o:=ZM7) ga)
  have gacc:upd G4 acc ZM7 acc=some (ZM7):=cy
  generalize upd G4 acc (.lst (ls.map V.ref))=G5 at g5 tol5 gacc
  have c5:LoC K t G5 H4 { L with D:=Z2o} { A with A:=ZIH}:=c3.frame g5.sub g5.held (λ b o _ e=>ZGC) λ b hb=>g5.free (c3.il b hb) (c3.gn b hb)
  have lsl:(Z3n).length=A.many:=by rw[FO,len]
  have hand:∀ {i:Nat} {x:V},(Z3n)[i]? = some x->∃ l T0 es,x=.ref l/\A.ths[i]? = some T0/\i<A.many/\G5 l=some Z6c/\jX K t G5 es T0.evs:=λ{i x} hx=>by
   have hi:=Z0s
   rw[lsl] at hi
   rw[FP] at hx
   obtain⟨l,hl,rfl⟩:=ZCs
   have e:=FJ (l:=A.ths) (i:=i) (by rw[c.len2];exact hi)
   obtain⟨es,z,ev⟩:=tol5 i l _ hl e
   exact⟨l,_,es,rfl,e,hi,z,ev⟩
  refine(sn ee4 λ rr5 ee5=>?_:ZA0)
  refine⟨_,rfl,acc,rfl,⟨_,SqL.of e4⟩,gz (xs:=Z3n) (λ i σ H'=>(∃ ta2,LoC K t G5 H' { L with D:=Z2o} { A with A:=ZHe}/\TaI A.ths i 0 ta2/\But Z8b H4 H')/\∃ a b c d,σ=[ZE,Z5W,a,b,c,d]) ⟨⟨[],c5,⟨.nil,(λ e he=>by cases he),(λ h p n b=>by unfold Bef at b;omega),Z9⟩,λ _ _ _ e=>e⟩,_,_,_,_,rfl⟩ ?_ ?_ ?_⟩
  ·rintro i σ H' _ ⟨⟨_,c6,_⟩,_⟩
   exact Z54
  ·rintro i x σ H' hx ⟨⟨ta2,c6,tai,bt⟩,a0,b0,c0,d0,rfl⟩
   obtain⟨l,T0,es,rfl,hT,hi,gl,evs⟩:=hand hx
   have tn:=Z9O
   refine⟨_,rfl,l,_,rfl,Z5e,jz (c:=1) (xs:=es) (λ k σ H'=>(∃ ta2,LoC K t G5 H' { L with D:=Z2o} { A with A:=ZHe}/\TaI A.ths i k ta2/\But Z8b H4 H')/\∃ b c d,σ=[ZE,Z5W,Z6E,b,c,d]) ⟨⟨ta2,c6,tai,bt⟩,_,_,_,rfl⟩ ?_ ?_ ?_⟩
   ·rintro k σ H' _ ⟨⟨_,c6,_⟩,_⟩
    exact Z5e
   ·rintro k x p σ H5 hx np ⟨⟨ta2,c6,tai,bt⟩,b0,c0,d0,rfl⟩
    rw[show ((1+k:Nat):Int)=(k:Int)+1 by omega]
    have hk:=Z0s
    obtain⟨E,hE⟩:∃ E,T0.evs[k]? = some E:=⟨_,FJ (by rw[<- evs.1];exact hk)⟩
    obtain⟨q,rfl,dxe,v,l1,l2,xs,ys,h1,h2,h3,h4,h5,h6,_⟩:=ZGw
    have s6:=cG.new (o:=.tup [.int ((k:Int)+1),Z2P]) np
    refine ZS
    generalize upd H5 p (.tup [.int ((k:Int)+1),.ref q])=H6 at s6 ⊢
    have c7:=c6.same s6
    have bt7:But Z8b H4 H6:=λ b o n e=>s6 _ _ (bt b o n e)
    refine⟨_,rfl,q,_,dxe,_,_,rfl,ZKP,T.cl_Event,T.na_cz,ku,rfl,_,rfl,?_⟩
    cases hu:E.u with
    | none=>
     rw[hu] at h2
     obtain rfl:v=.non:=h2
     exact eA rfl ⟨⟨ta2,c7,tai.skip hT hE hu,bt7⟩,_,_,_,rfl⟩
    | some n=>
     rw[hu] at h2
     obtain⟨b,rfl,hb⟩:=h2
     obtain⟨nin,tai'⟩:=tai.add rk hT hE hu
     have few:=tai.few
     have el:=evs.1
     have v1:eu (ta2.map λ e=>(Z1J,Z0Y)) (Z6L)=none:=gL (λ e:Nm3×Int=>Z1J) Z4_ λ e he y=>nin (by rw[<- eZ _ _ y];exact ZJI)
     refine gE rfl ⟨_,rfl,_,rfl,L.p,_,L.dx,_,_,rfl,c7.self,T.cl_Loom,T.na_da,rfl,_,rfl,q,_,dxe,_,_,rfl,ZKP,T.cl_Event,T.na_cz,ku,ta,_,rfl,.inr ⟨_,Z6L,b,c7.di.ta,rfl,c7.held _ _ hb,dc (by rw[FO];show ta2.length<=1000;omega),rfl⟩,?_⟩
     rw[gX _ v1]
     refine⟨⟨_,c7.rL (D':=⟨[],ta2++[(n,(k:Int)+1)],[]⟩) (But.upd.mono λ b hb=>by rw[FL] at hb;rw[hb];unfold DiL.own;simp) (c7.di.Dr cy But.upd),tai',λ b o nn e=>?_⟩,_,_,_,rfl⟩
     rw[cz (λ z=>nn (by rw[z];simp))];exact bt7 b o nn e
   ·rintro σ H5 ⟨⟨ta2,c6,tai,bt⟩,b0,c0,d0,rfl⟩
    rw[evs.1] at tai
    exact⟨⟨ta2,c6,tai.hand rk hT,bt⟩,_,_,_,_,rfl⟩
  rintro σ H5 ⟨⟨ta2,c6,tai,bt⟩,a0,b0,c0,d0,rfl⟩
  rw[lsl] at tai
  subst ee5
  have own0:∀ b∈DiL.own ⟨po,ta,wy⟩ ⟨[],ta2,[]⟩,b∈[po,ta,wy]:=λ b hb=>by simpa [DiL.own] using hb
  refine⟨_,rfl,acc,_,rfl,Z54,fM (xs:=Z3n) (λ i σ H'=>(∃ A2,LoC K t G5 H' { L with D:=Z2o} { A with A:=A2 }/\A2.ta=ta2/\WfD A.many ZDw A2/\PoI A.ths i 0 A2.po/\A2.wy.length<=A2.po.length/\But Z8b H4 H'/\∀ b∈DiL.own ⟨po,ta,wy⟩ A2,b∈[po,ta,wy]\/H4 b=none)/\∃ a b c d,σ=[ZE,Z5W,a,b,c,d])
   ⟨⟨_,c6,rfl,⟨.nil,tai.nd,(λ l hl=>by cases hl),.nil,(λ e he=>by cases he),(λ e he=>by cases he),(λ l hl=>by cases hl),λ e he=>?_⟩,⟨(λ l hl=>by cases hl),(λ h p q x b=>by unfold Bef at b;omega),Z9⟩,Z9,bt,λ b hb=>.inl (own0 b hb)⟩,_,_,_,_,rfl⟩ ?_ ?_ ?_⟩
  ·obtain⟨h,p,_,z,_⟩:=tai.u1 e he
   omega
  ·rintro i σ H' _ ⟨⟨_,c6,_⟩,_⟩
   exact Z54
  ·rintro i x p σ H6 hx np ⟨⟨A2,c7,et,wf,poi,lw,bt7,fr7⟩,a0,b0,c0,d0,rfl⟩
   obtain⟨l,T0,es,rfl,hT,hi,gl,evs⟩:=hand hx
   have tn:=Z9O
   have s8:=cG.new (o:=.tup [Z08,Z3G]) np
   refine ZS
   generalize upd H6 p (.tup [.int i,.ref l])=H7 at s8 ⊢
   have c8:=c7.same s8
   refine⟨_,rfl,l,_,rfl,SqL.of (c8.held _ _ gl),jz (c:=1) (xs:=es) (λ k σ H'=>(∃ A2,LoC K t G5 H' { L with D:=Z2o} { A with A:=A2 }/\A2.ta=ta2/\WfD A.many ZDw A2/\PoI A.ths i k A2.po/\A2.wy.length<=A2.po.length/\But Z8b H4 H'/\∀ b∈DiL.own ⟨po,ta,wy⟩ A2,b∈[po,ta,wy]\/H4 b=none)/\∃ b c,σ=[ZE,Z5W,Z6E,b,c,Z6d]) ⟨⟨A2,c8,et,wf,poi,lw,λ b o n e=>s8 _ _ (bt7 b o n e),fr7⟩,_,_,rfl⟩ ?_ ?_ ?_⟩
   ·rintro k σ H' _ ⟨⟨_,c6,_⟩,_⟩
    exact Z5e
   ·rintro k x p σ H8 hx np ⟨⟨A2,c9,et,wf,poi,lw,bt9,fr9⟩,b0,c0,rfl⟩
    rw[show ((1+k:Nat):Int)=(k:Int)+1 by omega]
    have hk:=Z0s
    rw[evs.1] at hk
    obtain⟨E,hE⟩:∃ E,T0.evs[k]? = some E:=⟨_,FJ hk⟩
    obtain⟨q,rfl,dxe,v,l1,l2,xs,ys,h1,h2,h3,⟨us,rfl,hse,hus⟩,h5,h6,_⟩:=ZGw
    have s9:=cG.new (o:=.tup [.int ((k:Int)+1),Z2P]) np
    refine ZS
    generalize upd H8 p (.tup [.int ((k:Int)+1),.ref q])=H9 at s9 ⊢
    have c10:=c9.same s9
    have few:=poi.few
    rw[FO] at h5
    refine tm ZL c10.self rfl (.cons ZL (.cons ZL (.cons (.f ZL (c10.held _ _ h1) T.cl_Event T.na_cy jf) .nil))) ⟨G5,L.p,L.dx,L.dz,A.many,A.ord,L.lt,L.lg,Z1T,A2,l1,i,(k:Int)+1,us,A.many,ZDw,rfl,c10.self,c10.di,wf,c10.nd1 (L:={ L with D:=Z2o}) (b:=L.p) Z8,λ z=>?_,SqL.of ZIk,h5,λ x hx=>⟨hus x hx,?_⟩,Z6h,Z6h,Z6h,by rw[mV hT];omega,λ e he ez=>?_,ZC,ZC,λ H2 A3 b3 d3 w3 f1 f2 f3 fr3=>?_⟩
    ·obtain⟨kvs,y⟩:=c10.di.isd z
     rw[ZIk] at y;cases y
    ·obtain⟨r,hr⟩:=HA hx
     exact rk.rg i k r _ ⟨T0,E,hT,hE,by rw[hse,FP,hr];rfl⟩
    ·obtain⟨h,p',q',bf,en,_⟩:=poi.s1 e he
     rw[en] at ez ⊢
     unfold nm3 at ez ⊢
     unfold Bef at bf
     dsimp only at ez ⊢
     omega
    ·have i5:∀ b,b∈DiL.own Z1T A2->∀ o,H4 b=some o->b∈[po,ta,wy]:=λ b hb o e=>(fr9 b hb).elim id λ z=>by rw[z] at e;cases e
     refine⟨⟨A3,c10.rL b3 d3,f1.trans et,w3,by rw[f2];exact poi.add hT hE hse h5,by rw[f2,FQ];unfold lets;rw[Jk];omega,λ b o n e=>b3 b o (λ z=>n (i5 b z o e)) (s9 _ _ (bt9 b o n e)),λ b hb=>?_⟩,_,_,rfl⟩
     rcases fr3 b hb with z|z
     ·exact fr9 b z
     ·by_cases y:b∈[po,ta,wy]
      ·exact .inl y
      ·cases e:H4 b with
       | none=>exact Z5k
       | some o=>rw[s9 _ _ (bt9 b o y e)] at z;cases z
   ·rintro σ H8 ⟨⟨A2,c9,et,wf,poi,lw,bt9,fr9⟩,b0,c0,rfl⟩
    rw[evs.1] at poi
    exact⟨⟨A2,c9,et,wf,poi.hand rk hT,lw,bt9,fr9⟩,_,_,_,_,rfl⟩
  ·rintro σ H6 ⟨⟨A2,c7,et,wf,poi,lw,bt7,fr7⟩,a0,b0,c0,d0,rfl⟩
   rw[lsl] at poi
   refine k G5 H6 Z1T ta2 A2.po A2 (λ b o n e=>?_) (λ b hb=>?_) c7 wf et rfl tai poi lw λ b nb z=>g5.free ?_ z
   ·have np:b≠L.p:=λ z=>n (by rw[z];simp)
    exact bt7 b o (λ z=>by rw[fr0 b z] at e;cases e) (s4 _ _ (up b o np e))
   ·rcases fr7 b hb with z|z
    ·exact fr0 b z
    ·cases e:H b with
     | none=>rfl
     | some o=>
      have np:b≠L.p:=λ y=>by rw[y,s4 _ _ hp3] at z;cases z
      rw[s4 _ _ (up b o np e)] at z;cases z
   ·by_cases y:b=L.p
    ·rw[y,hp3];simp
    ·cases e:H b with
     | none=>exact absurd e nb
     | some o=>rw[up b o y e];simp
noncomputable def jU (T:ThA) (y:Int) (st:Bool):ThA:=if st=true/\y=T.evs.length then T else T.cutAt y
theorem xc {T:ThA}{y:Int}{st:Bool}{p:Nat}(h:(p:Int)<y):(ZDr).evs[p]? = T.evs[p]?:=by
 unfold jU
 split
 ·rfl
 ·show (Z1w)[p]? = _
  rw[IE ZC]
theorem w9 (w:Z53) (h:T.pt y\/(st=true/\y=T.evs.length)):TWf n (ZDr)/\(∀ x,T.pt x->x<=y->(ZDr).pt x)/\(∀ (p:Nat) E,(ZDr).evs[p]? = some E↔T.evs[p]? = some E/\(p:Int)+1<=y):=by
 unfold jU
 by_cases c:st=true/\y=T.evs.length
 ·rw[FX c]
  refine⟨w,λ x J _=>J,λ p E=>⟨λ e=>ZBq,λ e=>e.1⟩⟩
  have:=ZG2
  lia
 ·rw[FV c]
  have F:ZGR:=h.elim id λ z=>absurd z c
  obtain⟨O,U⟩:=w.pt F
  obtain⟨h1,h2⟩:=w.cut F
  refine⟨h1,h2,λ p E=>?_⟩
  show (Z1w)[p]? = some E↔_
  rw[List.getElem?_take]
  by_cases q:p<y.toNat
  ·rw[ZKb];exact⟨λ e=>⟨e,Z1⟩,λ e=>e.1⟩
  ·rw[ZKd];exact⟨(λ e=>by cases e),λ e=>by lia⟩
structure js (A:LoA) (fs ln:List Int) (t2:List ThA):Prop where
 len:t2.length=A.ths.length
 at':∀ (j:Nat) T,A.ths[j]? = some T->t2[j]? = some (jU T ZE_ (decide ((j:Int)∉fs)))
section
variable {G H:Hp}{L:LoL}{A:LoA}{n:Nat}{fs ln:List Int}{t2:List ThA}
theorem AlW.at (lo:Za) (F:Z4W) {j:Nat}{T:ThA}(h:A.ths[j]? = some T):T.pt ZE_\/(decide ((j:Int)∉fs)=true/\cO ln j=T.evs.length):=by
 have J:=Z2D
 rw[lo.c.len2,<- F.1] at J
 have e:=FJ J
 rw[dY e,GA]
 exact F.2 j T _ h e
theorem js.ok (c:Z34) (lo:Za) (O:Z4W) {j:Nat}{F:ThA}(h:t2[j]? = some F):∃ T,A.ths[j]? = some T/\TWf n F/\(∀ x,T.pt x->x<=cO ln j->F.pt x)/\∀ (p:Nat) E,F.evs[p]? = some E↔T.evs[p]? = some E/\(p:Int)+1<=cO ln j:=by
 have J:=Z2D
 rw[c.len] at J
 have e:=FJ J
 rw[c.at' j _ e] at h;cases h
 exact⟨_,e,w9 (lo.tw _ (FT e)) (O.at lo e)⟩
theorem js.Ak (c:Z34) (lo:Za) (U:Z4W) {h p k:Nat}{x:Int×Int}:pL t2 h p k x↔pL A.ths h p k x/\(p:Int)+1<=cO ln h:=by
 constructor
 ·rintro⟨T2,E,h1,h2,O⟩
  obtain⟨T,Z,_,_,J⟩:=c.ok lo U h1
  obtain⟨W,Y⟩:=(J p E).mp h2
  exact⟨⟨T,E,Z,W,O⟩,Y⟩
 ·rintro⟨⟨T,E,h1,h2,O⟩,le⟩
  have V:=c.at' h T h1
  obtain⟨T',F,_,_,J⟩:=c.ok lo U V
  rw[h1] at F;cases F
  exact⟨_,E,V,(J p E).mpr ⟨h2,le⟩,O⟩
theorem js.used (c:Z34) (lo:Za) (F:Z4W) {h p:Nat}{m:Nm3}(u:Used t2 h p m):Used A.ths h p m/\(p:Int)+1<=cO ln h:=by
 obtain⟨Y,E,h1,h2,V⟩:=u
 obtain⟨T,W,_,_,U⟩:=c.ok lo F h1
 obtain⟨J,O⟩:=(U p E).mp h2
 exact⟨⟨T,E,W,J,V⟩,O⟩
theorem js.rk (c:Z34) (lo:Za) (hn:n<=30) (F:Z4W):RkO A.many t2:=by
 refine⟨lo.m2.2,λ T2 hT=>?_,λ h p h' U m u u'=>?_,λ h p q x s=>?_⟩
 ·obtain⟨j,hj⟩:=HA hT
  obtain⟨_,_,w,_⟩:=c.ok lo F hj
  have:=w.en
  omega
 ·obtain⟨V,l,J,W,Y⟩:=lo.lk.u2 h p m (c.used lo F u).1
  obtain⟨Z,l',O,b2,b3⟩:=lo.lk.u2 h' U m (c.used lo F u').1
  have e1:=fW lo.wf.nd J O (W.trans b2.symm)
  have e2:=jr lo.wf.nt V Z rfl
  have e3:(p:Int)+1=(U:Int)+1:=congrArg Prod.snd e2
  rw[e1] at Y
  exact ZFG
 ·obtain⟨l,J,_,e⟩:=lo.lk.s2 h p q x ((c.Ak lo F).mp s).1
  have:=lo.wf.rg l J
  rw[<- e];exact this.2.2.2.2.2.2
theorem js.old (c:Z34) (lo:Za) (J:Z4W) (F:PoI t2 A.many 0 po) (h:l'∈po):∃ l∈A.A.po,l.nm=l'.nm/\l.to=l'.to:=by
 obtain⟨h,p,q,_,e,s⟩:=F.s1 l' h
 obtain⟨l,V,O,U⟩:=lo.lk.s2 h p q _ ((c.Ak lo J).mp s).1
 exact⟨l,V,O.trans e.symm,congrArg Prod.fst U⟩
theorem js.lk (c:Z34) (lo:Za) (Z:Z4W) (sd:mI Z4b A.A) (O:ZE0) (J:ZE4):Lk t2 A':=by
 have F:∀ {h:Nat} {T:ThA} (p:Nat),t2[h]? = some T->Bef A.many 0 h p:=λ p e=>by
  have:=ZG2
  rw[c.len,lo.c.len2] at this
  exact .inl this
 refine⟨λ l U=>?_,λ h p k x s=>?_,λ e he=>?_,λ h p m u=>?_⟩
 ·obtain⟨h,p,q,_,z⟩:=J.s1 l U
  exact⟨h,p,q,z⟩
 ·exact J.s2 h p k x (let ⟨_,_,h1,_⟩:=s;F p h1) s
 ·obtain⟨h,p,_,z⟩:=O.u1 e he
  exact⟨h,p,z⟩
 ·have b:Bef A.many 0 h p:=let ⟨_,_,h1,_⟩:=u;F p h1
  refine⟨O.u2 h p m b u,?_⟩
  obtain⟨u1,le⟩:=c.used lo Z u
  obtain⟨a1,l,U,W,Y⟩:=lo.lk.u2 h p m u1
  have s1:=sd l U _ a1 W.symm (by rw[Y];exact le)
  obtain⟨h',p',k',e',s'⟩:=lo.lk.s1 l U
  rw[e'] at s1
  have s2:=(c.Ak lo Z).mpr ⟨s',s1⟩
  obtain⟨l',V,e1,e2⟩:=J.s2 h' p' k' _ (let ⟨_,_,h1,_⟩:=s2;F p' h1) s2
  exact⟨l',V,by rw[e1,<- e',W],by rw[show l'.to=l.to from congrArg Prod.fst e2];exact Y⟩
end
section
variable {G H H':Hp}{q:ThL}{T0:ThA}{Q:VK}{E:XK}{L:LoL}{A:LoA}{n:Nat}
theorem zH (th:Z4L) (Z:ZLd) (Y:T0.pt y\/(b=true/\y=T0.evs.length)) (k:Q Z2N H):yI K t ZIp H Q E:=by
 obtain⟨es,V,U⟩:=th.done
 obtain⟨F,O,J,W⟩:=Z.hd
 rw[<- Gg (p:=(b=true/\y=es.length)\/y∈F::O\/(F<=y/\y<=T0.down)) (by rw[U.1];exact Y.elim (λ z=>.inr ((ThA.pY J W).mp z)) .inl)] at k
 exact⟨q.p,q.dx,_,q.ha,q.dn,q.wr,_,F,O,es,y,b,rfl,th.self,by rw[<- J];exact th.fR,SqL.of V,k⟩
theorem zB {y:Int}{b:Bool}(th:Z4L) (tw:ZLd) (hn:n<=30) (ok:T0.pt y\/(b=true/\y=T0.evs.length)) (k:∀ H' q',But q.ad H H'->q'.p=q.p->(∀ c∈q'.ad,c∈q.ad\/H c=none)->Th K t G H' q' (jU T0 y b)->Q .non H'):yx K t ZIp H Q E:=by
 obtain⟨w0,ws,ew,hw⟩:=tw.hd
 have wn:=tw.wn
 refine⟨G,q,T0,w0,ws,y,b,rfl,th,ew,hw,(tw.rg w0 (by rw[ew];exact FZ)).1,ZC,λ c=>?_,λ c p H' dn wr bt f1 f2 th'=>?_,λ c=>ok.elim id λ z=>absurd z c⟩
 ·exact k H q (λ _ _ _ e=>e) rfl (λ _ h=>Z5z) (by unfold jU;rw[FX c];exact th)
 ·refine k H' { q with dn:=dn,wr:=wr } (bt.mono λ x hx=>?_) rfl (λ x hx=>?_) (by unfold jU;rw[FV c];exact th')
  ·rw[FL] at hx
   rw[hx];unfold ThL.ad;simp
  ·unfold ThL.ad at hx
   simp only[FR,FU,Ga] at hx
   rcases hx with rfl|rfl|rfl
   ·exact .inl (by unfold ThL.ad;simp)
   ·exact .inr f1
   ·exact .inr f2
theorem iH (h1:σ[i1]? = some Z6E) (h2:σ[i2]? = some ZGB) (F:SqL K H l Z5m) (J:h<ln.length):Ev (tOp Z9H (dZ i1) (dZ i2)) σ H ZIC:=
 λ _ k=>⟨_,h1,_,h2,l,_,h,_,rfl,rfl,F,ji Z1 Z1,k⟩
end
def Dn (K:W.Frag) (t:Adr):Sp:=λ vs H Q _=>∃ G L A n l ln f fs,vs=[Zk,Z3G,Z7H]/\Lo K t G H L A n/\n<=30/\SqL K H l Z5m/\l∉L.own A/\SqL K H f ZAg/\f∉L.own A/\AlW A fs ln/\mI Z4b A.A/\(∀ i:Nat,i<A.many->A.b i<=cO ln i) /\
 ∀ G' H' L' A',Stp G G' H H' L A L' A'->Lo K t G' H' L' A' n->Q .non H'
theorem D7 (T:ZJ):dk P w K mg base ZM 6 t.f_cv t.fd_cv ["self","line","fallen"] (Dn K t):=by
 refine T.F_cv.okN oP Z6 ZB
 ·obtain⟨G,L,A,n,l,ln,f,fs,rfl,_⟩:=h;rfl
 ·obtain⟨G,L,A,n,l,ln,f,fs,rfl,lo,hn,hl,nl,hf,nf,aw,sd,bb,k⟩:=h
  refine⟨_,(cD (dI PassesOwn.never rfl Z7t Z1z
    (cE (dy (eE (dN (cW Z1F T.cl_Thread T.me_ax ZMI Z0 T.b_ax .nil cH (cF ZHO (cF (eX ZFt Z1E ZV (by with_unfolding_all rfl)) cC)))))
    ZAm
    da)))
   (cD (dI PassesOwn.never rfl Z7t Z1z
    (cE (cR (cW Z1F T.cl_Thread T.me_cs (EF (K:=K) T) Z0 T.b_cs .nil cH (cF ZHO (cF (eX ZFt Z1E ZV (by with_unfolding_all rfl)) cC))))))
   (cD (dj (K:=K) ZX (dH ["self","line","fallen","hand","thread","entry"] 1 rfl Z1W (λ _ _ _ _ _=>⟨(cN (i:=5) (show List.Nodup (["self","line","fallen","hand","thread","entry"]:ZT) from by decide +kernel) rfl Z5),(iD (cZ kU Z2q (cY ZR ZI (cY Zm Z2q cJ ZA) ZA) Z0Z)),Z1O⟩)) rfl)
   (cE (cR (cX ZX T.cl_Loom T.me_af (BR (K:=K) T) Z0 T.b_af .nil cH)))))),?_⟩
  refine Z16
  have m2:=lo.m2
  have lts:(Z03).length=A.many:=by rw[FO,lo.c.len1]
  have fl:(iV fs).all gU=true:=by unfold iV;rw[JD];exact Z4r
  have evf:∀ {σ:St} {H':Hp} {i:Nat},σ[3]? = some (Z6d)->σ[2]? = some (Z32)->SqL K H' f ZAg->Ev (tOp (rIn K true) (dZ 3) ZJf) σ H' (.bl (decide ((i:Int)∉fs))):=λ{σ H' i} h3 h2 hf Q q=>⟨_,h3,_,h2,f,iV fs,rfl,.inl hf,rfl,fl,by rw[Z1X,jJ,<- decide_not];exact q⟩
  refine⟨_,rfl,L.p,_,L.dx,_,_,rfl,lo.c.self,T.cl_Loom,T.na_bx,rfl,L.lt,_,rfl,ZKV,fM (xs:=Z03) (λ i σ H'=>cG H H'/\∃ a b,σ=[ZE,Z6E,Z32,a,b]) ZGm ?_ ?_ ?_⟩
  ·rintro i σ H' _ ⟨s',_⟩
   exact SqL.of (s' _ _ lo.c.tl)
  ·rintro i x p σ H1 hx np ⟨s1,a0,b0,rfl⟩
   have hi:=Z0s
   rw[lts] at hi
   obtain⟨q,T0,hq,hT,th,tw,hqs⟩:=lo.at hi
   rw[hqs] at hx;cases hx
   have s2:=Z9R
   have s02:=Z4J
   refine ZS
   generalize upd H1 p (.tup [.int i,.ref q.p])=H2 at s2 s02 ⊢
   have th2:=(lo.same s02).c.th i q T0 hq hT
   refine tm ZL th2.self rfl (.cons (iH rfl rfl (s02.seq hl) (by rw[aw.1];exact hi)) (.cons (evf rfl rfl (s02.seq hf)) .nil)) (zH th2 tw (aw.at lo hT) ⟨true,rfl,fG ⟨s02,_,_,rfl⟩⟩)
  rintro σ H1 ⟨s1,a0,b0,rfl⟩
  refine(sn ee1 λ rr2 ee2=>?_:Z5E)
  have lo1:=Z2m
  refine⟨_,rfl,L.p,_,L.dx,_,_,rfl,lo1.c.self,T.cl_Loom,T.na_bx,rfl,L.lt,_,rfl,SqL.of lo1.c.tl,fM (xs:=Z03) (λ i σ H'=>(∃ q2 t2,q2.map Z8l=L.ths.map Z8l/\LoC K t G H' { L with ths:=q2 } { A with ths:=t2 }/\(∀ (j:Nat) T,A.ths[j]? = some T->t2[j]? = some (if j<i then jU T ZE_ (decide ((j:Int)∉fs)) else T))/\Stp G G H H' L A { L with ths:=q2 } { A with ths:=t2 }/\∀ xs,H L.lg=some ZQ->H' L.lg=some ZQ)/\∃ a b,σ=[ZE,Z6E,Z32,a,b]) ⟨⟨L.ths,A.ths,rfl,lo1.c,λ j T h=>h,Stp.of s1,λ xs h=>s1 _ _ h⟩,_,_,rfl⟩ ?_ ?_ ?_⟩
  ·rintro i σ H' _ ⟨⟨q2,t2,eq,c,_⟩,_⟩
   have:=c.tl
   rw[show (({ L with ths:=q2 }:LoL).ths.map λ q=>V.ref q.p)=L.ths.map λ q=>V.ref q.p from eq] at this
   exact SqL.of this
  ·rintro i x p σ H2 hx np ⟨⟨q2,t2,eq,c,ct,st,lgk⟩,a0,b0,rfl⟩
   have hi:=Z0s
   rw[lts] at hi
   rw[<- eq,FP] at hx
   obtain⟨q,hq,rfl⟩:=ZCs
   obtain⟨T0,e⟩:∃ T0,A.ths[i]? = some T0:=⟨_,FJ (by rw[lo.c.len2];exact hi)⟩
   have hT:=ct i T0 e
   rw[FV Z60] at hT
   have s3:=Z9R
   refine ZS
   generalize upd H2 p (.tup [.int i,.ref q.p])=H3 at s3 ⊢
   have c3:=c.same s3
   have st3:=ZEp
   have th3:=c3.th i q T0 hq hT
   have tw:=lo.tw T0 (FT e)
   refine tm ZL th3.self rfl (.cons (iH rfl rfl (j9 st3.bt nl hl) (by rw[aw.1];exact hi)) (.cons (evf rfl rfl (j9 st3.bt nf hf)) .nil)) (zB th3 tw hn (aw.at lo e) λ H4 q' b4 pe fr4 th4=>?_)
   have g4:fD H3 G G H4:=⟨Z3F,th4.held,λ _ _ e=>ZAa⟩
   refine⟨⟨q2.set i q',t2.set i (jU T0 ZEa (decide ((i:Int)∉fs))),?_,c3.lS hq g4 b4 th4 pe fr4,λ j T hj=>?_,st3.trans (c3.stp hq hT b4 fr4 λ p lt=>xc (Jl lt (bb i hi))),λ xs h=>b4 _ _ (λ z=>c3.tb i q hq _ z Z8) (s3 _ _ (lgk xs h))⟩,_,_,rfl⟩
   ·rw[<- eq]
    refine Hk λ j=>?_
    rw[FP,FP]
    by_cases z:i=j
    ·subst z;rw[F8 (ZCv).1,hq];exact congrArg ZDZ pe
    ·rw[Gk z]
   ·by_cases z:i=j
    ·subst z
     rw[e] at hj;cases hj
     rw[F8 (FK.mp hT).1,FX ZCW]
    ·rw[Gk z,ct j T hj]
     by_cases y:j<i
     ·rw[FX y,ZLy]
     ·rw[FV y,ZHE]
  rintro σ H2 ⟨⟨q2,t2,eq,c,ct,st,lgk⟩,a0,b0,rfl⟩
  refine(sn ee2 λ rr3 ee3=>?_:Z6H)
  have cu:Z34:=⟨by rw[lo.c.len2];exact c.len2,λ j T h=>by
   have hj:=(ZFd).1
   rw[lo.c.len2] at hj
   rw[ct j T h,FX (by rw[lts];exact hj)]⟩
  obtain⟨lx,lgx,ll,lr⟩:=lo.lg
  have lg2:=lgk lx lgx
  have lr2:∀ x∈lx,oK A.many H2 x:=λ x hx=>(lr x hx).keep λ b xs e=>st.bt _ _ (lo.c.sL e) e
  refine⟨_,rfl,L.p,_,L.dx,_,_,rfl,c.self,T.cl_Loom,T.na_ds,rfl,L.lg,rfl,⟨_,SqL.of lg2⟩,dU (xs:=lx) ZC λ acc hacc=>⟨λ i σ2 ys H3=>(ys.length<=i/\(∀ y∈ys,y∈lx)/\H3 acc=some Zb/\cG H2 H3)/\∃ o,σ2=[ZE,Z6E,Z32,a0,b0,o],⟨⟨Z9,(λ y hy=>by cases hy),cy,cG.new hacc⟩,_,rfl⟩,?_,?_,?_⟩⟩
  ·rintro i σ2 ys H3 hi ⟨⟨le,_,_,s3⟩,_⟩
   exact⟨SqL.of (s3 _ _ lg2),le⟩
  ·rintro i v σ2 ys H3 hi hx ⟨⟨le,sub,e3,s3⟩,o,rfl⟩
   obtain⟨e,r,pl,sx,h,xs,rfl,he,hr,hh,_⟩:=lr2 v ZJo
   dsimp only[eh]
   refine⟨_,rfl,e,_,1,_,rfl,rfl,ZGS,rfl,_,rfl,_,rfl,e,_,0,_,rfl,rfl,ZGS,rfl,r,_,1,_,rfl,rfl,SqT.of (s3 _ _ hr),(show atI _ ((1:Nat):Int)=_ from dW rfl),l,_,h,_,rfl,rfl,s3.seq (j9 st.bt nl hl),ji ZC (by rw[aw.1];omega),_,_,rfl,rfl,_,rfl,Z0W⟩
   ·refine⟨_,rfl,e3,Nx.mk hi ⟨⟨by rw[FQ,F6];omega,λ y hy=>?_,cy,λ b u z=>?_⟩,_,rfl⟩⟩
    ·rcases FY.mp hy with hy|hy
     ·exact sub y hy
     ·rw[FL] at hy
      rw[hy];exact FT hx
    ·rw[ZBQ];exact ZGD
   ·exact Nx.mk hi ⟨⟨ZC,sub,e3,s3⟩,_,rfl⟩
  rintro σ2 ys H3 ⟨⟨le,sub,e3,s3⟩,o,rfl⟩
  have c3:=c.same s3
  refine⟨_,rfl,L.p,_,L.dx,_,rfl,c3.self,T.cl_Loom,T.na_ds,by show 8<1000;decide,?_⟩
  have nap:acc≠L.p:=λ z=>by rw[z,c.self] at hacc;cases hacc
  have hp4:upd H3 L.p (.ins t.c_Loom L.dx (cL "log" (Zt) Z0F)) L.p=some (.ins t.c_Loom L.dx (loF L.dz A.many A.ord L.lt acc L.D)):=cy
  have e4:upd H3 L.p (.ins t.c_Loom L.dx (cL "log" (Zt) Z0F)) acc=some Zb:=by rw[cz nap];exact e3
  have b4:But ZIq H3 (upd H3 L.p (.ins t.c_Loom L.dx (cL "log" (Zt) Z0F))):=But.upd
  generalize upd H3 L.p (.ins t.c_Loom L.dx (cL "log" (.ref acc) (loF L.dz A.many A.ord L.lt L.lg L.D)))=H4 at hp4 e4 b4 ⊢
  have b24:But [L.p,L.lg] H2 H4:=λ b o n z=>b4 b o (λ y=>n (by rw[FL] at y;rw[y];simp)) (s3 _ _ z)
  have c4:=c.uH (lg:=acc) b24 hp4 e4 (.inr hacc)
  subst ee3
  refine tm ZL c4.self rfl .nil ⟨G,{ L with ths:=q2,lg:=acc },{ A with ths:=t2 },rfl,c4,cu.rk lo hn aw,λ G' H' D ta po A' bt fr c' wf et ep tai poi lw gk=>?_⟩
  subst et;subst ep
  have tai:ZE0:=tai
  have poi:ZE4:=poi
  have lk:=cu.lk lo aw sd tai poi
  have st24:Stp G G H2 H4 { L with ths:=q2 } { A with ths:=t2 } { L with ths:=q2,lg:=acc } { A with ths:=t2 }:=by
   refine⟨rfl,b24.mono λ b hb=>LoL.gj ?_,rfl,rfl,λ _ _=>Z9U,λ b hb=>?_,λ _ _ _ _=>rfl,λ _ _ _ _ _ z=>z⟩
   ·simp only[FR,FU,Ga] at hb ⊢
    exact hb.elim .inl λ z=>.inr ZEQ
   ·rcases LoL.eY hb with y|⟨i,r,hr,y⟩|y
    ·have y':b∈[L.p,L.lt,acc]:=y
     simp only[FR,FU,Ga] at y'
     rcases y' with rfl|rfl|rfl
     ·exact .inl Z5p
     ·exact .inl Z5p
     ·exact .inr hacc
    ·exact .inl (LoL.gD (L:={ L with ths:=q2 }) hr y)
    ·exact .inl (LoL.i5 (L:={ L with ths:=q2 }) (A:={ A with ths:=t2 }) y)
  have st45:Stp G G' H4 H' { L with ths:=q2,lg:=acc } { A with ths:=t2 } { L with ths:=q2,lg:=acc,D:=D } { A with ths:=t2,A:=A' }:=by
   refine⟨rfl,bt.mono λ b hb=>LoL.gj (by rw[FL] at hb;rw[hb];simp),rfl,rfl,λ _ _=>GC _,λ b hb=>?_,λ _ _ _ _=>rfl,λ b o _ e _ z=>gk b (by rw[e];simp) z⟩
   rcases LoL.eY hb with y|⟨i,r,hr,y⟩|y
   ·exact .inl (LoL.gj (L:={ L with ths:=q2,lg:=acc }) y)
   ·exact .inl (LoL.gD (L:={ L with ths:=q2,lg:=acc }) hr y)
   ·exact .inr (fr b y)
  have lg':H' acc=some Zb:=bt _ _ (by rw[FL];exact nap) e4
  have tk:∀ b xs,H2 b=some ZU->H' b=some ZU:=λ b xs e=>by
   have np:b∉[L.p]:=by rw[FL];exact fO e c.self Z8
   exact bt _ _ np (b4 _ _ np ZLE)
  refine k G' H' _ _ (st.trans (st24.trans st45)) ⟨c',wf,lk,⟨ys,lg',ZC,λ x hx=>(lr2 x (sub x hx)).keep tk⟩,λ T2 hT2=>?_,⟨?_,lw⟩,lo.m2,lo.fr,λ j T2 h2=>?_,λ l' hl' e he ee le=>?_⟩
  ·obtain⟨j,hj⟩:=HA (show T2∈t2 from hT2)
   obtain⟨_,_,w,_⟩:=cu.ok lo aw hj
   exact w
  ·have:=kM (b:=A.A.po.map (·.nm)) wf.nd λ z hz=>by
    obtain⟨l',hl',rfl⟩:=F2.mp hz
    obtain⟨l0,h0,e0,_⟩:=ZEs
    rw[<- e0];exact F4 h0
   rw[FO,FO] at this
   have:=lo.bn
   show A'.po.length<=_
   omega
  ·obtain⟨T0,hT,_,pt,_⟩:=cu.ok lo aw h2
   have hj:=Z9K
   rw[lo.c.len2] at hj
   exact pt _ Z45 (bb j hj)
  ·obtain⟨l0,h0,e0,t0⟩:=ZEs
   obtain⟨h,p,_,z,u⟩:=tai.u1 e he
   have u0:=(lo.lk.u2 h p e.1 (cu.used lo aw u).1).1
   rw[<- z] at u0
   rw[<- e0]
   exact lo.snd l0 h0 e u0 (ee.trans e0.symm) (by rw[t0];exact le)
def CV (K:W.Frag) (t:Adr):Sp:=λ vs H Q _=>∃ G L A n,∃ j:Nat,∃ y,vs=[Zk,Z0r,Z6Y]/\Lo K t G H L A n/\n<=30/\j<A.many/\y=A.b j/\∀ H' L' A',Stp G G H H' L A L' A'->Lo K t G H' L' A' n->A'.b=A.b->Q .non H'
theorem CL (T:ZJ):dk P w K mg base ZM 3 t.f_an t.fd_an ["self","hand","place"] (CV K t):=by
 refine T.F_an.okN Eu Z6 ZB
 ·obtain⟨G,L,A,n,j,y,rfl,_⟩:=h;rfl
 ·obtain⟨G,L,A,n,j,y,rfl,lo,hn,hj,rfl,k⟩:=h
  refine⟨_,(cD Z0B
   (cE (cR (cW Z2_ T.cl_Thread T.me_ah (Ck (K:=K) T) Z0 T.b_ah .nil cH Z0x)))),?_⟩
  obtain⟨q,T0,hq,hT,th,tw,hqs⟩:=ZGH
  refine Z0v
  refine tm ZDE th.self rfl Zd ⟨G,q,T0,_,rfl,th,by have:=tw.wn;omega,λ kp H1 wr kept b1 nwr th1=>?_⟩
  obtain⟨tw1,pt1⟩:=tw.throw Z45 kept
  have fr:∀ b∈ThL.ad { q with wr:=wr },b∈q.ad\/H b=none:=λ b hb=>by
   unfold ThL.ad at hb ⊢
   simp only[FR,FU,Ga] at hb ⊢
   rcases hb with h|h|h
   ·exact ZGZ
   ·exact .inl ZM9
   ·rw[h];exact .inr nwr
  obtain⟨lo1,st⟩:=lo.lS hq hT (b1.mono λ b hb=>by rw[FL] at hb;rw[hb];unfold ThL.ad;simp) th1 rfl fr (Nat.le_refl n) (λ T h=>h) tw1 rfl pt1
  exact k H1 _ _ st lo1 rfl
def Bse (A:LoA) (ln:Zc):Prop:=Gl A (gM 0 A.many) ln
theorem vO {m:Nat}{i:Nat}(h:i<m):¬ (i:Int)∉gM 0 m:=λ z=>z (gB.mpr ZC)
theorem Bse.pt {A:LoA}{ln:Zc}(J:A.ths.length=A.many) (b:ZM5) {j:Nat}{T:ThA}(O:A.ths[j]? = some T):T.pt ZE_:=by
 have F:=ZG3
 rw[J] at F
 have e:=FJ (l:=ln) (i:=j) (by rw[b.1.1];exact F)
 rw[dY e]
 exact(b.1.2 j T _ O e).elim id λ z=>absurd z.1 (vO F)
theorem Bse.uniq (F:Bse A a) (J:Bse A b):a=b:=by
 refine Z3U
 by_cases h:i<A.many
 ·have O:=FJ (l:=a) (i:=i) (by rw[F.1.1];exact h)
  have U:=FJ (l:=b) (i:=i) (by rw[J.1.1];exact h)
  have x:=F.2.2 b J.1 J.2.1 i h
  have y:=J.2.2 a F.1 F.2.1 i h
  rw[dY O,dY U] at x y
  rw[O,U]
  exact congrArg some (Int.le_antisymm y x)
 ·rw[GK (by rw[F.1.1];lia),GK (by rw[J.1.1];lia)]
section
variable {G H:Hp}{L:LoL}{A:LoA}{n:Nat}
theorem Lo.rise (lo:Za) (b:Gl A fs ln) (h:i<A.many):A.b i<=cO ln i:=by
 have x:=b.2.2 ZJj (ZIS).1 (ZIS).2 i h
 rwa [dY (pN h)] at x
theorem Lo.based (lo:Za) {ln:Zc}(b:ZM5):Lo K t G H L { A with b:=ZIh} n:=
 ⟨⟨lo.c.self,lo.c.tl,lo.c.th,lo.c.len1,lo.c.len2,lo.c.log,lo.c.di,lo.c.clo,lo.c.held,lo.c.gn,lo.c.td,lo.c.tb,lo.c.ll⟩,lo.wf,lo.lk,lo.lg,lo.tw,lo.bn,lo.m2,lo.fr,λ j T F=>b.pt lo.c.len2 F,b.2.1⟩
end
def A5 (K:W.Frag) (t:Adr):Sp:=λ vs H Q _=>∃ G L A n,vs=[Zk]/\Lo K t G H L A n/\n<=30/\∀ l ln H',cG H H'->H l=none->H' l=some ZHX->Bse A ln->Q Zg H'
theorem vf (T:ZJ):dk P w K mg base ZM 8 t.f_dv t.fd_dv ["loom"] (A5 K t):=by
 refine T.F_dv.okN C4 Z6 (λ J A outer s H vs Q E W h=>?_)
 ·obtain⟨G,L,A,n,rfl,_⟩:=h;rfl
 ·obtain⟨G,L,A,n,rfl,lo,V,k⟩:=h
  refine⟨_,(cE (cQ (cY Zm (cU ZMN (W.mono Z4) rfl T.mg_bf T.kp_bf T.b_bf .nil cH (cF ZX (cF Z2r cC))) cJ ZA))),?_⟩
  have m2:=lo.m2
  refine⟨_,rfl,_,rfl,L.p,_,L.dx,_,_,rfl,lo.c.self,T.cl_Loom,T.na_dk,rfl,A.many,rfl,λ r nr=>?_⟩
  refine⟨r,0,A.many,rfl,cy,Z5C,Z1,λ f Y=>?_⟩
  have F:=(cG.new (o:=.rng 0 (A.many:Int)) nr).trans (cG.new (o:=.lst (iV (gM 0 (A.many:Int)))) Y)
  exact⟨G,L,A,n,f,_,rfl,lo.same F,V,Z83,λ p l pa ln ls ns H' s' Z ep O _ _ U=>⟨p,_,0,Z3G,rfl,rfl,SqT.of ep,rfl,k l ln H' (F.trans s') (F.free Z) O U⟩⟩
def WdO (H H':Hp) (qs:Zq) (As:ZCo):Prop:=∀ (i:Nat) q E,qs[i]? = some q->As[i]? = some E->H q=none/\H' q=some ZIA
def BD (K:W.Frag) (t:Adr):Sp:=λ vs H Q _=>∃ G L A n,∃ j:Nat,∃ T,vs=[Zk,Z0r]/\Lo K t G H L A n/\n<=30/\A.ths[j]? = some T/\∀ l qs H',cG H H'->H l=none->H' l=some Z8y->qs.length=T.evs.length->WdO H H' qs T.evs->Q Zg H'
theorem ro (T:ZJ):dk P w K mg base ZM 5 t.f_bg t.fd_bg ["self","hand"] (BD K t):=by
 refine T.F_bg.okN BA Z6 Z7h
 ·obtain⟨G,L,A,n,j,T0,rfl,_⟩:=h;rfl
 ·obtain⟨G,L,A,n,j,T0,rfl,lo,hn,hT,k⟩:=h
  refine⟨_,(cD Z0B
   (cE (cQ (dH ["self","hand","event"] 1 rfl (dD (K:=K) (cX Z2_ T.cl_Thread T.me_bc ZML Z0 T.b_bc .nil cH)) (λ _ _ _ _ _=>⟨(cN (i:=2) (show List.Nodup (["self","hand","event"]:ZT) from by decide +kernel) rfl Z5),dG,(cK (K:=K) ZV rfl)⟩))))),?_⟩
  have hj:j<A.many:=by have:=Z9K;rw[lo.c.len2] at this;exact this
  obtain⟨q,T1,hq,a1,th,tw,a5⟩:=ZGH
  rw[hT] at a1;cases a1
  have en:=tw.en
  obtain⟨es,hd,Z⟩:=th.done
  have el:=Z.1
  refine Z0v
  refine tm (gA T lo.c rfl rfl a5) th.self rfl .nil ⟨G,q.p,q.dx,_,q.ha,q.dn,q.wr,_,es,T0.evs,rfl,th.held,th.self,hd,Z,Z1,λ G' H1 l0 a2 g s1 a8 Y gl a4 a3=>?_⟩
  have a6:=a4.1
  refine⟨l0,rfl,⟨_,SqL.of Y⟩,dU (xs:=a2) Z1 λ acc F=>⟨λ i O ys H2=>(∃ U:List Addr,U.length=i/\ys=U.map V.ref/\H2 acc=some Zb/\cG H1 H2/\∀ (m:Nat) q E,U[m]? = some q->T0.evs[m]? = some E->H q=none/\H1 q=some ZIA)/\∃ o,O=[ZE,ZCb,o],⟨⟨[],rfl,rfl,cy,Z81,(λ m q E e=>by simp at e)⟩,_,rfl⟩,?_,?_,?_⟩⟩
  ·rintro i O ys H2 hi ⟨⟨U,J,rfl,_,W,_⟩,_⟩
   exact⟨SqL.of (W _ _ Y),by rw[FO];lia⟩
  ·rintro i x O ys H2 hi hx ⟨⟨U,J,rfl,e2,W,wd⟩,o,rfl⟩
   obtain⟨E,hE⟩:∃ E,T0.evs[i]? = some E:=Z5V
   obtain⟨e,rfl,dx,v,l1,l2,h1,h2,h3⟩:=a3 i _ _ hx hE
   dsimp only[eh,gy]
   refine fC ⟨_,rfl,e,_,dx,_,_,rfl,W _ _ h1,T.cl_Event,T.na_cx,pB,e2,Nx.mk hi ⟨⟨U++[l2],by rw[FQ,J];rfl,by rw[F0];rfl,cy,λ c u z=>?_,λ m q E' a b=>?_⟩,_,rfl⟩⟩
   ·rw[ZFN];exact W _ _ z
   ·rcases eQ a with a|⟨e1,rfl⟩
    ·exact wd m q E' a b
    ·rw[e1,J,hE] at b;cases b
     exact⟨h2,h3⟩
  ·rintro O ys H2 ⟨⟨U,J,rfl,e2,W,wd⟩,o,rfl⟩
   exact k acc U H2 (s1.trans W) (s1.free F) e2 (J.trans a6) λ m q E a b=>⟨(wd m q E a b).1,W _ _ (wd m q E a b).2⟩
noncomputable def qx (H:Hp) (x:V):V:=match x with
 | .ref e=>match H e with
  | some (.tup (r::_))=>r
  | _=>.non
 | _=>.non
theorem kg (h:H e=some (.tup (r::rs))):qx H (ZGX)=r:=by
 show (match H e with|some (.tup (r::_))=>r|_=>.non)=r
 rw[h]
theorem lQ {m:Nat}{H H':Hp}{xs:Z04}(k:∀ b xs,H b=some ZU->H' b=some ZU) (h:∀ x∈xs,ZLH):xs.map (qx H')=xs.map (qx H):=GD λ x J=>by
 obtain⟨e,r,O,_,_,_,rfl,F,_⟩:=h x J
 rw[kg F,kg (k _ _ F)]
theorem xC (h:PyData.canLay0 Z6o=true):okD n Z6o:=⟨h,by simp[PyData.depth],by simp[noDict]⟩
theorem XsO.rp {H:Hp}{xs:Z04}(h:XsO H xs):∃ ds,eF K H xs ds/\∀ d∈ds,okD 2 d:=by
 rcases h with rfl|⟨b,n,rfl,e⟩
 ·exact⟨[],.nil,λ d hd=>by cases hd⟩
 ·refine⟨[_],.cons (rF e) .nil,λ d hd=>?_⟩
  rw[FL] at hd
  rw[hd]
  refine .tuple (n:=1) λ d hd=>?_
  simp only[FR,FU,Ga] at hd
  rcases hd with rfl|rfl|rfl<;>exact .int
theorem rC {m:Nat}{H:Hp}:∀ {xs:List V},(∀ x∈xs,ZLH)->∃ ds:List PyData,eF K H ZJX ds/\∀ d∈ds,okD 3 d
 | [],_=>⟨[],.nil,λ d hd=>by cases hd⟩
 | x::xs,h=>by
  obtain⟨ds,h1,h2⟩:=rC λ y hy=>h y (FW _ hy)
  obtain⟨e,r,pl,s,i,zs,rfl,he,hr,_,sk,xo⟩:=ZGM
  obtain⟨es,r1,r2⟩:=xo.rp (K:=K)
  refine⟨.tuple (.str s :: .int i::es)::ds,?_,λ d hd=>?_⟩
  ·rw[Gq,kg he]
   exact .cons (.tup (SqT.of hr) (.cons (.str _) (.cons (.int _) r1))) h1
  ·rcases FR.mp hd with rfl|hd
   ·refine .tuple (n:=2) λ d hd=>?_
    rcases FR.mp hd with rfl|hd
    ·exact xC (by simp[PyData.canLay0,sk])
    ·rcases FR.mp hd with rfl|hd
     ·exact .int
     ·exact r2 d hd
   ·exact h2 d hd
def AV (K:W.Frag) (t:Adr):Sp:=λ vs H Q _=>∃ G L A n xs,vs=[Zk]/\Lo K t G H L A n/\n<=30/\H L.lg=some ZQ/\∀ l H',cG H H'->H l=none->H' l=some (.lst ZJX)->Q Zg H'
theorem yG (T:ZJ):dk P w K mg base ZM 1 t.f_df t.fd_df ["self"] (AV K t):=by
 refine T.F_df.okN CW Z6 Z0I
 ·obtain⟨G,L,A,n,xs,rfl,_⟩:=h;rfl
 ·obtain⟨G,L,A,n,xs,rfl,lo,hn,V,k⟩:=h
  refine⟨_,(cE (cQ (dH ["self","entry"] 1 rfl Z1W (λ _ _ _ _ _=>⟨(cN (i:=1) (show List.Nodup (["self","entry"]:ZT) from by decide +kernel) rfl Z5),dG,Z0y⟩)))),?_⟩
  obtain⟨ys,Z,le,lr⟩:=lo.lg
  rw[V] at Z;cases Z
  refine⟨_,rfl,L.p,_,L.dx,_,_,rfl,lo.c.self,T.cl_Loom,T.na_ds,rfl,L.lg,rfl,⟨_,SqL.of V⟩,dU (xs:=xs) Z1 λ acc F=>⟨λ i J ys H2=>ys=(ZII).map (qx H)/\H2 acc=some Zb/\cG H H2/\∃ o,J=[ZE,o],Z4G,?_,?_,?_⟩⟩
  ·rintro i J ys H2 hi ⟨rfl,_,O,_⟩
   refine⟨SqL.of (O _ _ V),?_⟩
   rw[FO,Gu];lia
  ·rintro i v J ys H2 hi Y ⟨rfl,U,O,o,rfl⟩
   obtain⟨e,r,pl,_,_,_,rfl,W,_⟩:=lr v (FT Y)
   dsimp only[eh,gy]
   refine fC ⟨_,rfl,e,_,0,ZEK,rfl,rfl,SqT.of (O _ _ W),rfl,U,Nx.mk hi ⟨?_,cy,λ b u z=>?_,_,rfl⟩⟩
   ·rw[GQ,Y,F0]
    show _=_++[qx H ZGX]
    rw[kg W]
   ·rw[ZFN];exact O _ _ z
  ·rintro J ys H2 ⟨rfl,U,O,o,rfl⟩
   rw[Ho] at U
   exact k acc H2 O F U
noncomputable def tri (h p:Nat) (x:Int):Nm3:=((h:Int),(p:Int)+1,x)
noncomputable def fl (ths:Z3d) (h:Nat) (a b:Int):Nat->List Nm3
 | 0=>[]
 | n+1=>fl ths h a b n++if a<(n:Int)+1/\(n:Int)+1<=b then (wdA ths h n).map ZAf else []
noncomputable def due (ths:Z3d) (a b:Int->Int):Nat->List Nm3
 | 0=>[]
 | m+1=>due ths a b m++fl ths m (a m) (b m) 30
theorem t7:fl ths h a b (n+1)=fl ths h a b n++if a<(n:Int)+1/\(n:Int)+1<=b then (wdA ths h n).map ZAf else []:=rfl
theorem oR:due ths a b (m+1)=due ths a b m++fl ths m (a m) (b m) 30:=rfl
theorem jZ (J:n<=m) (e:∀ p:Nat,n<=p->p<m->a<(p:Int)+1->(p:Int)+1<=b->wdA ths h p=[]):fl ths h a b m=fl ths h a b n:=by
 induction m with
 | zero=>rw[Nat.le_zero.mp J]
 | succ m F=>
  by_cases z:n=m+1
  ·rw[z]
  ·rw[t7,F Z1 λ p h1 h2=>e p h1 Z1]
   split
   ·next q=>rw[e m Z1 (G8 m) q.1 q.2,Jh,Gx]
   ·rw[Gx]
theorem wZ (a:ths[h]? = some T) (l:T.evs.length<=p):wdA ths h p=[]:=by
 unfold wdA
 rw[a,I0,GK l];rfl
theorem NmL.put (h:Z5g) (F:H l=some Z4d) (np:H p=none):NmL (upd (upd H p Z3K) l o) (ls++[Zs]) (ns++[n]):=by
 have J:p≠l:=λ z=>by rw[z,F] at np;cases np
 have h2:=(h.same (cG.new (o:=.tup (nV n)) np)).snoc ⟨p,rfl,cy⟩
 refine h2.keep λ b xs e=>?_
 rw[cz Z2t];exact e
 rw[z,Z52,F] at e;cases e
theorem NmL.app (h:NmL H as xs) (k:NmL H bs ys):NmL H (as++bs) (xs++ys):=⟨by rw[F0,h.eq,k.eq],λ v F=>(FY.mp F).elim (h.all v) (k.all v)⟩
def Bl (K:W.Frag) (t:Adr):Sp:=λ vs H Q _=>∃ G L A n,∃ j:Nat,∃ a b,vs=[Zk,Z0r,.int a,.int b]/\Lo K t G H L A n/\n<=30/\j<A.many/\∀ l xs H',cG H H'->H l=none->H' l=some ZQ->NmL H' xs (fl A.ths j a b 30)->Q Zg H'
theorem Lo.xj (lo:Za):(wdA A.ths j p).length<=10:=by
 unfold wdA
 cases U:A.ths[j]? with
 | none=>exact Z8g
 | some T=>
  rw[I0]
  cases O:T.evs[p]? with
  | none=>exact Z8g
  | some E=>
   obtain⟨q,V,_,F,th,_⟩:=lo.at (j:=j) (by rw[<- lo.c.len2];exact(FK.mp U).1)
   rw[U] at F;cases F
   obtain⟨es,_,J⟩:=th.done
   obtain⟨_,_,_,_,_,_,_,_,_,_,_,_,_,_,_,z⟩:=J.2 p _ _ (FJ (by rw[J.1];exact ZG3)) O
   exact z
theorem CA (T:ZJ):dk P w K mg base ZM 6 t.f_bh t.fd_bh ["loom","hand","start","end"] (Bl K t):=by
 refine T.F_bh.okN rj Z6 ZB
 ·obtain⟨G,L,A,n,j,a,b,rfl,_⟩:=h;rfl
 ·obtain⟨G,L,A,n,j,a,b,rfl,lo,hn,hj,k⟩:=h
  refine⟨_,(cD (cV (i:=4) rj.nd rfl Z5 Z2g)
   (cD (dI PassesOwn.never rfl (ly (K:=K) rfl T.no_enumerate (cF (cW ZX T.cl_Loom T.me_bg Z8B Z0 T.b_bg .nil cH Zf) cC)) (eJ (K:=K) rfl (dh (cN (i:=5) rj.nd rfl Z1R) (dh (cN (i:=6) rj.nd rfl Z5) eM)))
    (cE (dy (PW.pt (jw (cZ yV Z1O ZV Z0Z) (iw (cZ kU Z1O Z1E Z0Z))))
    (cE (cR (dQ (K:=K) F5 ID IC iy Z1F (cF (dH ["loom","hand","start","end","words","place","said","word"] 1 rfl ZAk (λ _ _ _ _ _=>⟨(cN (i:=7) (show List.Nodup (["loom","hand","start","end","words","place","said","word"]:ZT) from by decide +kernel) rfl Z5),dG,(eC (cF ZI (cF Z1O Z7K)))⟩)) cC))))
    da)))
   (cE (cQ Z1F)))),?_⟩
  refine Z16
  obtain⟨T0,hT⟩:∃ T0,A.ths[j]? = some T0:=⟨_,FJ (by rw[lo.c.len2];exact hj)⟩
  have en:=(Z1m).en
  refine⟨Z4,λ acc hacc=>?_⟩
  refine(sn ee1 λ rr2 ee2=>?_:Z5E)
  have s1:=cG.new (o:=Zr) hacc
  have ea:=Z4i
  generalize upd H acc (.lst [])=H1 at s1 ea ⊢
  refine tm ZL (Z2m).c.self rfl Zd ⟨G,L,A,n,j,T0,rfl,Z2m,hn,hT,λ l qs H2 s2 nl el ql wd=>⟨l,_,rfl,Z39,jz (c:=1) (xs:=Z24) (λ i σ H'=>(∃ xs,H' acc=some ZQ/\NmL H' xs (fl A.ths j a b i)/\xs.length<=10*i/\But ZIo H2 H')/\∃ o5 o6,σ=[ZE,ZCb,Z5Z,Z5Y,Z5W,o5,o6]) ⟨⟨[],s2 _ _ ea,.nil,Z9,λ _ _ _ e=>e⟩,_,_,rfl⟩ ?_ ?_ ?_⟩⟩
  ·rintro i σ H' _ ⟨⟨xs,_,_,_,bt⟩,_⟩
   exact SqL.of (bt _ _ (by rw[FL];exact λ z=>by rw[z,ea] at nl;cases nl) el)
  ·rintro i x p σ H3 hx np ⟨⟨xs,e3,nm3,le3,bt3⟩,o5,o6,rfl⟩
   rw[FP] at hx
   obtain⟨q,hq,rfl⟩:=ZCs
   have hi:=(ZCv).1
   obtain⟨E,hE⟩:∃ E,T0.evs[i]? = some E:=⟨_,FJ (by rw[<- ql];exact hi)⟩
   obtain⟨nq,eq⟩:=wd i q E hq hE
   have we:=ZGI
   have sl:=lo.xj (j:=j) (p:=i)
   rw[we] at sl
   rw[show ((1+i:Nat):Int)=(i:Int)+1 by omega]
   have s4:=cG.new (o:=.tup [.int ((i:Int)+1),Z2P]) np
   refine ZS
   generalize upd H3 p (.tup [.int ((i:Int)+1),.ref q])=H4 at s4 ⊢
   have eq4:=s4 _ _ (bt3 _ _ (by rw[FL];exact λ z=>by rw[z,ea] at nq;cases nq) eq)
   have bt4:But ZIo H2 H4:=λ c o n e=>s4 _ _ (bt3 c o n e)
   have fs:∀ {c:Prop} [Decidable c],(c↔a<(i:Int)+1/\(i:Int)+1<=b)->fl A.ths j a b (i+1)=fl A.ths j a b i++if c then E.sa.map (tri j i) else []:=λ{c} _ z=>by
    rw[<- we,t7]
    congr 1
    by_cases y:c
    ·rw[FX y,FX (z.mp y)]
    ·rw[FV y,FV λ q=>y (z.mpr q)]
   refine⟨_,rfl,_,rfl,_,_,rfl,rfl,_,rfl,fY (λ z1=>⟨_,rfl,_,rfl,_,_,rfl,rfl,_,rfl,Z5G⟩) λ z1=>fG ?_⟩
   ·have z1:=GH z1
    have z2:=GH z2
    refine⟨_,rfl,Z7g,_,rfl,q,rfl,⟨_,SqL.of eq4⟩,dU (xs:=iV E.sa) (by rw[eB];omega) λ c2 hc2=>⟨λ m σ2 ys H'=>(NmL H' ys ((E.sa.take m).map (tri j i))/\ys.length=m/\H' c2=some Zb/\cG H4 H')/\∃ o,σ2=[ZE,ZCb,Z5Z,Z5Y,Z5W,some (.int ((i:Int)+1)),ZLA,o],⟨⟨.nil,rfl,cy,cG.new hc2⟩,_,rfl⟩,?_,?_,?_⟩⟩
    ·rintro m σ2 ys H' _ ⟨⟨_,le,_,s5⟩,_⟩
     exact⟨SqL.of (s5 _ _ eq4),Ka le⟩
    ·rintro m v σ2 ys H5 hm hv ⟨⟨nm5,le,e5,s5⟩,o,rfl⟩
     obtain⟨y,rfl,hy⟩:=iO hv
     dsimp only[eh,gy]
     refine fC ⟨_,rfl,_,rfl,_,rfl,by show 3<=sizeLine;decide,λ p np=>?_⟩
     refine⟨(cG.new np) _ _ e5,Nx.mk hm ⟨⟨?_,by rw[FQ,le];rfl,cy,λ c u z=>?_⟩,_,rfl⟩⟩
     ·rw[GQ,hy,F0]
      exact nm5.put (n:=tri j i y) e5 np
     ·rw[cz (cB z hc2)];exact(cG.new np) _ _ (s5 _ _ z)
    ·rintro σ2 ys H5 ⟨⟨nm5,le,e5,s5⟩,o,rfl⟩
     rw[eB] at le nm5
     rw[Ho] at nm5
     have e3':=s5 _ _ ZIL
     refine⟨acc,c2,xs,ys,rfl,rfl,e3',e5,by rw[le];exact Gd (show _<=1000 by omega) Z4,⟨xs++ys,cy,?_,by rw[FQ];omega,λ c o n e=>?_⟩,_,_,rfl⟩
     ·rw[fs (c:=True) (by simp[z1,z2]),FX trivial]
      exact((nm3.same Z7T).app nm5).keep λ c us e=>by rw[cz (λ z=>by rw[z,e3'] at e;cases e)];exact e
     ·rw[cz (by simpa using n)];exact s5 _ _ (bt4 c o n e)
   ·refine Z5u
    rw[fs (c:=False) ⟨False.elim,λ q=>z2 (Gg q.2)⟩,FV id,Gx]
    exact nm3.same s4
   ·refine Z5u
    rw[fs (c:=False) ⟨False.elim,λ q=>z1 (Gg q.1)⟩,FV id,Gx]
    exact nm3.same s4
  ·rintro σ H3 ⟨⟨xs,e3,nm3,le3,bt3⟩,o5,o6,rfl⟩
   subst ee2
   rw[FO,ql] at nm3
   refine⟨_,rfl,k acc xs H3 (λ c o e=>bt3 c o (by rw[FL];exact cB e hacc) (s2 _ _ ZCK)) hacc e3 ?_⟩
   rw[jZ (n:=T0.evs.length) (m:=30) ZC λ p hp _ _ _=>wZ hT hp]
   exact nm3
def Sid (G H:Hp) (L:LoL) (A:LoA) (b:Addr) (xs:Z04):Prop:=H b=some ZQ/\b∉L.own A/\G b=none
section
variable {G G' H H':Hp}{L L':LoL}{A A':LoA}{b:Addr}{xs:List V}{n:Nat}
theorem Sid.next (h:ZHq) (st:Z5d):Sid G' H' L' A' b xs:=⟨st.bt _ _ h.2.1 h.1,λ z=>(st.fr b z).elim h.2.1 (λ y=>by rw[h.1] at y;cases y),st.gk _ _ h.2.1 h.1 trivial h.2.2⟩
theorem Sid.same (h:ZHq) (s:Z1t):ZH6:=⟨s _ _ h.1,h.2⟩
theorem Sid.new (lo:Za) (nb:H b=none) (e:H' b=some ZQ):ZH6:=⟨e,λ z=>lo.c.il _ z nb,lo.c.held.free nb⟩
theorem Lo.put (lo:Za) (h:Sid G H L A b ys) (J:But [b] H H'):ZHA:=by
 have U:∀ c o,c≠b->H c=some o->H' c=some o:=λ c o n e=>J c o (by rw[FL];exact n) e
 have O:∀ c o,c∈L.own A->H c=some o->H' c=some o:=λ c o F e=>U c o (λ z=>h.2.1 (by rw[<- z];exact F)) e
 obtain⟨lx,W,Y,Z⟩:=lo.lg
 exact⟨lo.c.frame Z3F (J.same lo.c.held λ c F=>by rw[FL] at F;rw[F];exact h.2.2) O lo.c.gn,lo.wf,lo.lk,⟨lx,O _ _ Z5p W,Y,λ x V=>(Z x V).keep λ c us e=>U c _ (λ z=>by rw[z,h.1] at e;cases e) e⟩,lo.tw,lo.bn,lo.m2,lo.fr,lo.pts,lo.snd⟩
end
theorem kj:But [b] H (upd H b o):=λ c u n e=>by rw[cz (by simpa using n)];exact e
noncomputable def kpF (lm td en:Addr):List (Str×V):=[("loom",.ref lm),("told",ZJN),("ends",.ref en)]
def Cb (K:W.Frag) (t:Adr):Sp:=λ vs H Q _=>∃ H0 G L A n p dx,vs=[Zs,Zk]/\cG H0 H/\H0 p=none/\H p=some (ZEN)/\Lo K t G H0 L A n/\∀ H' td en,cG H0 H'->H' p=some Z7M->H0 td=none->H0 en=none->td≠en->H' td=some (Zr)->H' en=some (.lst ZGK)->Q .non H'
theorem vn (T:ZJ):dk P w K mg base ZM 1 t.f_cg t.fd_cg ["self","loom"] (Cb K t):=by
 refine T.F_cg.okN DL Z6 (λ a2 A outer s H vs Q E hr h=>?_)
 ·obtain⟨H0,G,L,A,n,p,dx,rfl,_⟩:=h;rfl
 ·obtain⟨H0,G,L,A,n,p,dx,rfl,s0,np,hp,lo,k⟩:=h
  refine⟨_,(cD Z2C
   (cD Z65
   (cE (dj (K:=K) ZX (dH ["self","loom","hand"] 1 rfl Zw (λ _ _ _ _ _=>⟨(cN (i:=2) (show List.Nodup (["self","loom","hand"]:ZT) from by decide +kernel) rfl Z5),dG,cJ⟩)) rfl)))),?_⟩
  have m2:=lo.m2
  have U:∀ {H1:Hp} {o:HO},cG H0 H1->cG H0 (upd H1 p o):=λ s b u e=>by rw[cz (cB e np)];exact Z6G
  refine⟨_,rfl,_,rfl,p,_,dx,_,rfl,hp,T.cl_Keeper,T.na_cm,Z4,?_⟩
  have s1:=U (o:=.ins t.c_Keeper dx (cL "loom" (Zk) [])) s0
  have Z:=cy (H:=H) (a:=p) (o:=.ins t.c_Keeper dx (cL "loom" (Zk) []))
  generalize upd H p (.ins t.c_Keeper dx (cL "loom" (.ref L.p) []))=H1 at s1 Z ⊢
  refine⟨Z4,λ td F=>⟨_,rfl,p,_,dx,_,rfl,(by rw[cz (cB Z F)];exact Z),T.cl_Keeper,T.na_cn,by show 1<1000;decide,?_⟩⟩
  have s2:=U (o:=.ins t.c_Keeper dx (cL "told" (ZJN) (cL "loom" (Zk) []))) (s1.trans ZHp)
  have e2:=cy (H:=upd H1 td Zr) (a:=p) (o:=.ins t.c_Keeper dx (cL "told" (ZJN) (cL "loom" (Zk) [])))
  have W:td≠p:=λ z=>by rw[z,Z] at F;cases F
  have et:upd (upd H1 td Zr) p (.ins t.c_Keeper dx (cL "told" (ZJN) (cL "loom" (Zk) []))) td=some (Zr):=by rw[cz W,cy]
  generalize upd (upd H1 td (.lst [])) p (.ins t.c_Keeper dx (cL "told" (.ref td) (cL "loom" (.ref L.p) [])))=H2 at s2 e2 et ⊢
  refine⟨_,rfl,L.p,_,L.dx,_,_,rfl,(Z6f).c.self,T.cl_Loom,T.na_dk,rfl,(A.many:Int),rfl,Z1,Z1,eO (n:=A.many) Z1 λ u O=>⟨λ i J ys V=>ys=iV (List.replicate i 0)/\V u=some Zb/\cG H2 V/\∃ o,J=[Z7S,ZE,o],⟨rfl,cy,cG.new O,_,rfl⟩,?_,?_,?_⟩⟩
  ·rintro i J ys V hi ⟨rfl,_⟩
   rw[eB,HN];exact Z9
  ·rintro i J ys V hi ⟨rfl,e3,Y,o,rfl⟩
   dsimp only[eh,gy]
   refine fC ⟨e3,Nx.mk hi ⟨by rw[JQ,ip],cy,λ b v e=>?_,_,rfl⟩⟩
   rw[cz (cB e O)];exact Y _ _ e
  rintro J ys V ⟨rfl,e3,Y,o,rfl⟩
  refine⟨_,rfl,p,_,dx,_,rfl,Y _ _ e2,T.cl_Keeper,T.na_cl,by show 2<1000;decide,?_⟩
  have a1:u≠p:=λ z=>by rw[z,e2] at O;cases O
  exact k _ td u (U (s2.trans Y)) cy (s1.free F) (s2.free O) (λ z=>by rw[<- z,et] at O;cases O) (by rw[cz W];exact Y _ _ et) (by rw[cz a1];exact e3)
def Et (K:W.Frag) (t:Adr):Sp:=λ vs H Q _=>∃ G L A n p dx fs,vs=[Zs]/\H p=some (.ins t.c_Keeper dx fs)/\fs.lookup ("loom" :ZBp)=some (Zk)/\p∉L.own A/\Lo K t G H L A n/\n<=30/\∀ H' L' A',Stp G G H H' L A L' A'->Lo K t G H' L' A' n->Q .non H'
theorem Dp (T:ZJ):dk P w K mg base ZM 9 t.f_bs t.fd_bs ["self"] (Et K t):=by
 refine T.F_bs.okN uR Z6 (λ a6 A outer s H vs Q E hr h=>?_)
 ·obtain⟨G,L,A,n,p,dx,fs,rfl,_⟩:=h;rfl
 ·obtain⟨G,L,A,n,p,dx,fs,rfl,hp,lk,np,lo,hn,k⟩:=h
  refine⟨_,(cE (dI PassesOwn.never rfl Z0z (eJ (K:=K) rfl (dh (cN (i:=1) uR.nd rfl Z5) (dh (cN (i:=2) uR.nd rfl Z5) eM)))
    (cE (cR (cW Z2 T.cl_Loom T.me_an (CL (K:=K) T) Z0 T.b_an .nil cH Z7m))))),?_⟩
  refine⟨_,rfl,p,_,dx,_,_,rfl,hp,T.cl_Keeper,T.na_cm,lk,G,L,A,n,rfl,lo,hn,λ l ln H1 s1 nl el O=>?_⟩
  have a2:=Z2m
  have a4:l∉L.own A:=λ z=>ZKC
  have a5:Stp G G H1 H1 L A L { A with b:=ZIh}:=⟨rfl,λ _ _ _ e=>e,rfl,rfl,λ i hi=>lo.rise O hi,λ b hb=>ZJU,λ _ _ _ _=>rfl,λ _ _ _ _ _ z=>z⟩
  refine⟨l,_,rfl,Z39,fM (xs:=iV ln) (λ i σ H'=>(∃ V J,Stp G G H1 H' L A V J/\Lo K t G H' V J n/\J.b=cO ln/\H' l=some ZHX)/\∃ a b,σ=[Z7S,a,b]) ⟨⟨L,_,a5,a2.based O,rfl,el⟩,_,_,rfl⟩ ?_ ?_ ?_⟩
  ·rintro i σ H' _ ⟨⟨_,_,_,_,_,e⟩,_⟩
   exact ZCl
  ·rintro i x q σ H2 hx nq ⟨⟨V,J,st,U,eb,W⟩,a0,b0,rfl⟩
   obtain⟨y,rfl,hy⟩:=iO hx
   have hi:=ZEh
   rw[O.1.1] at hi
   have s3:=cG.new (o:=ZKi) nq
   refine⟨q,_,rfl,ZIu,rfl,_,_,rfl,_,_,rfl,rfl,?_⟩
   generalize upd H2 q (.tup [.int i,.int y])=H3 at s3 ⊢
   have Y:=U.same s3
   have F:=ZEp
   refine tm (.f ZL (F.bt _ _ np (s1 _ _ hp)) T.cl_Keeper T.na_cm lk) (by rw[<- F.p];exact Y.c.self) rfl Z5s ?_
   rw[<- F.p]
   refine⟨G,V,J,n,i,y,rfl,Y,hn,by rw[F.em];exact hi,by rw[eb,dY hy],λ H4 L4 A4 Z a3 a1=>⟨⟨L4,A4,F.trans Z,a3,a1.trans eb,Z.bt _ _ Z2t (s3 _ _ W)⟩,_,_,rfl⟩⟩
   exact(F.fr l z).elim a4 λ y=>by rw[el] at y;cases y
  ·rintro σ H2 ⟨⟨V,J,st,U,eb,W⟩,a0,b0,rfl⟩
   exact k H2 V J Z70 U
structure KpL where
 (kp dx td en:Addr)
structure Kp (t:Adr) (G H:Hp) (L:LoL) (A:LoA) (k:KpL) (ls:List Int) (ns:List Nm3):Prop where
 self:H k.kp=some (.ins t.c_Keeper k.dx (kpF L.p k.td k.en))
 nk:k.kp∉L.own A
 td:∃ xs,Sid G H L A k.td xs/\NmL H xs ns
 en:Sid G H L A k.en ZJd
 ne:k.td≠k.en
theorem oY (l:a.length=b.length) (h:∀ j:Nat,j<b.length->cO a j=cO b j):a=b:=by
 refine Z3U
 by_cases z:i<b.length
 ·have F:=FJ (l:=a) (i:=i) Z1
  have J:=FJ (l:=b) (i:=i) z
  have:=h i z
  rw[dY F,dY J] at this
  rw[F,J,this]
 ·rw[ZLx,ZLx]
theorem nZ (hi:i<es.length) (j:Nat):cO ZBy j=if j=i then y else cO es j:=by
 by_cases z:j=i
 ·rw[ZJC,z]
  exact dY (F8 hi)
 ·rw[ZJD]
  unfold cO
  rw[GB,Z7E]
theorem rX (h:i<n):ixN n (i:Int)=some i:=by
 unfold ixN
 rw[Z9V,Z9V,GB]
theorem qo (lo:Za) (k):(fl A.ths m x y k).length<=10*k:=by
 induction k with
 | zero=>exact Z9
 | succ k F=>
  rw[t7,FQ]
  have:=lo.xj (j:=m) (p:=k)
  split
  ·rw[FO];lia
  ·show _+0<=_;lia
theorem iB (lo:Za):∀ {m:Nat},(due A.ths a b m).length<=300*m
 | 0=>Z9
 | m+1=>by
  have F:=iB lo (a:=a) (b:=b) (m:=m)
  have:=qo lo (m:=m) (x:=a m) (y:=b m) 30
  rw[oR,FQ];lia
def BX (K:W.Frag) (t:Adr):Sp:=λ vs H Q _=>∃ G L A n k ls ns,vs=[.ref k.kp]/\Lo K t G H L A n/\n<=30/\Kp t G H L A k ls ns/\ls.length=A.many/\(∀ j:Nat,j<A.many->cO ls j<=A.b j)/\ns.length<=100000 /\
 ∀ l xs ln H',Bse A ln->But [k.td,k.en] H H'->H l=none->H' l=some ZQ->NmL H' xs (due A.ths Z5o Z4b A.many)->Lo K t G H' L A n->Kp t G H' L A k ln (ns++due A.ths Z5o Z4b A.many)->Q Zg H'
theorem yo (T:ZJ):dk P w K mg base ZM 9 t.f_ch t.fd_ch ["self"] (BX K t):=by
 refine T.F_ch.okN q5 Z6 (λ ax A outer s H vs Q E hr h=>?_)
 ·obtain⟨G,L,A,n,k,ls,ns,rfl,_⟩:=h;rfl
 ·obtain⟨G,L,A,n,J,ls,ns,rfl,lo,hn,W,ll,lb,az,k⟩:=h
  refine⟨_,(cD (cV (i:=1) q5.nd rfl Z5 Z2g)
   (cD (dI PassesOwn.never rfl Z0z (eJ (K:=K) rfl (dh (cN (i:=2) q5.nd rfl Z5) (dh (cN (i:=3) q5.nd rfl Z5) eM)))
    (cD (cR (dQ (K:=K) F5 ID IC iy ZI (cF (cU (CA (K:=K) T) Z0 rfl T.mg_bh T.kp_bh T.b_bh .nil cH (cF Z2 (cF ZV ZBk))) cC)))
   (cE (vk (dB (mf rfl) rfl T.no_max wC ZBk) (vD Z2 ZV set_list)))))
   (cD (cR (dQ (K:=K) F5 ID IC iy Z2 Zf))
   Z6a))),?_⟩
  refine sq λ av ao=>?_
  have m2:=lo.m2
  refine⟨Z4,λ acc F=>?_⟩
  refine(sn ao λ aA ap=>?_:av _ _ _)
  have s1:=ZHp
  have ea:=Z4i
  generalize upd H acc (.lst [])=H1 at s1 ea ⊢
  have ag:=Z2m
  have am:∀ {H':Hp} {xs:List V},H' acc=some ZQ->Sid G H' L A acc xs:=λ e=>Sid.new lo F e
  obtain⟨tx,ts,tn⟩:=W.td
  have al:J.td≠acc:=λ z=>by rw[<- z,ts.1] at F;cases F
  have ai:J.en≠acc:=λ z=>by rw[<- z,W.en.1] at F;cases F
  have a5:∀ {b:Addr} {xs:List V},H1 b=some ZQ->J.kp≠b:=λ e z=>by rw[<- z,Z7y] at e;cases e
  refine tcl (.cons (.f ZL Z7y T.cl_Keeper T.na_cm rfl) .nil) ⟨G,L,A,n,rfl,ag,hn,λ l ln H2 s2 nl el a1=>⟨l,_,rfl,Z39,fM (xs:=iV ln) (λ i σ H'=>(∃ xs es,H' acc=some ZQ/\NmL H' xs (due A.ths Z5o Z4b i)/\es.length=A.many/\(∀ j:Nat,cO es j=if j<i then cO ln j else cO ls j)/\Sid G H' L A J.en ZFv/\Lo K t G H' L A n/\But [acc,J.en] H2 H')/\∃ o2 o3,σ=[ZHg,Z5W,o2,o3]) ⟨⟨[],ls,s2 _ _ ea,.nil,ll,λ j=>by rw[FV (JH j)],W.en.same Z4J,ag.same s2,λ _ _ _ e=>e⟩,_,_,rfl⟩ ?_ ?_ ?_⟩⟩
  ·rintro i σ H' _ ⟨⟨_,_,_,_,_,_,_,_,bt⟩,_⟩
   refine SqL.of (bt _ _ Z2t el)
   simp only[FR,FU,Ga] at z
   rcases z with z|z
   ·rw[z,ea] at nl;cases nl
   ·rw[z,ZCe] at nl;cases nl
  ·rintro i x p σ H3 hx np ⟨⟨xs,es,e3,Z,le,a2,a3,Y,U⟩,o2,o3,rfl⟩
   obtain⟨y,rfl,hy⟩:=iO hx
   have hi:=ZEh
   rw[a1.1.1] at hi
   have ad:=dY hy
   have s4:=cG.new (o:=ZKi) np
   refine ZS
   generalize upd H3 p (.tup [.int i,.int y])=H4 at s4 ⊢
   have aj:J.kp∉[acc,J.en]:=λ z=>by
    simp only[FR,FU,Ga] at z
    exact z.elim (a5 ea) (a5 ZCe)
   have a9:=s4 _ _ (U _ _ aj (s2 _ _ Z7y))
   have ev:∀ {H':Hp} {Q:VK},H' J.kp=some (.ins t.c_Keeper J.dx (kpF L.p J.td J.en))->H' J.en=some (.lst ZFv)->Q (.int ZIi) H'->tOp Z9H (nh K ZCN "ends") ZJf [ZHg,Z5W,Z6d,Z1d] H' Q:=λ{H' Q} h1 h2 q=>⟨_,rfl,J.kp,_,J.dx,_,_,rfl,h1,T.cl_Keeper,T.na_cl,rfl,_,rfl,J.en,_,i,_,rfl,rfl,SqL.of h2,ji ZC ZC,q⟩
   refine⟨_,rfl,Z7g,tcl (vs:=[Zk,Z08,.int ZIi,Z6Y]) (.cons (.f ZL a9 T.cl_Keeper T.na_cm rfl) (.cons ZL (.cons (λ Q' q'=>ev a9 (s4 _ _ a3.1) q') Zd))) ⟨G,L,A,n,i,ZIi,y,rfl,Y.same s4,hn,hi,λ l5 O H5 s5 ay aq aa=>?_⟩⟩
   have a6:=Z7T
   have e5:=a6 _ _ e3
   have ab:=a3.same a6
   have ar:=s5 _ _ a9
   refine⟨acc,l5,xs,O,rfl,rfl,e5,aq,?_,?_⟩
   ·rw[Z.len,aa.len]
    have d1:=iB Y (a:=cO ls) (b:=cO ln) (m:=i)
    have d2:=qo Y (m:=i) (x:=ZIi) (y:=y) 30
    exact Gd (show _<=3000 by omega) Z4
   have ak:NmL (upd H5 acc (.lst (xs++O))) (xs++O) (due A.ths Z5o Z4b (i+1)):=by
    rw[a2 i,FV Z60,<- ad] at aa
    exact((Z.same a6).app aa).keep λ c us e=>by rw[cz (λ z=>by rw[z,e5] at e;cases e)];exact e
   have ah:=(Y.same a6).put (am e5) (kj (o:=.lst (xs++O)))
   have e6:=cy (H:=H5) (a:=acc) (o:=.lst (xs++O))
   have b6:But ZIo H5 (upd H5 acc (.lst (xs++O))):=kj
   generalize upd H5 acc (.lst (xs++O))=H6 at ak ah e6 b6 ⊢
   have af:=b6 _ _ (λ z=>aj (by simp at z;rw[z];simp)) ar
   have a4:Sid G H6 L A J.en ZFv:=⟨b6 _ _ (by rw[FL];exact ai) ab.1,ab.2⟩
   refine ev af a4.1 ⟨_,rfl,_,_,rfl,_,rfl,J.kp,_,J.dx,_,_,rfl,af,T.cl_Keeper,T.na_cl,rfl,_,rfl,J.en,_,i,i,rfl,rfl,a4.1,rX (by rw[eB];omega),?_⟩
   have up:=lb i hi
   have aB:=lo.rise a1 hi
   have e0:=a2 i
   rw[FV Z60] at e0
   rw[show (iV es).set i (.int (if y>cO es i then y else cO es i))=iV ZBy by
    rw[show (if y>cO es i then y else cO es i)=y by split<;>omega]
    unfold iV;rw[List.map_set]]
   have au:=ah.put a4 (kj (o:=.lst (iV ZBy)))
   refine⟨⟨xs++O,ZBy,by rw[cz (Ne.symm ai)];exact e6,ak.keep λ c us e=>by rw[cz (λ z=>by rw[z,a4.1] at e;cases e)];exact e,by rw[Hm];exact le,λ j=>?_,⟨cy,a4.2⟩,au,λ c o nc e=>?_⟩,_,_,rfl⟩
   ·rw[nZ ZC,a2 j]
    by_cases z:j=i
    ·rw[ZJC,ZLy,z,ad]
    ·rw[ZJD]
     by_cases q:j<i
     ·rw[ZKb,ZLy]
     ·rw[ZKd,ZHE]
   ·simp only[FR,FU,Ga,Hz] at nc
    rw[cz nc.2]
    exact b6 _ _ (by rw[FL];exact nc.1) (a6 _ _ (U c o (by simp only[FR,FU,Ga,Hz];exact nc) e))
  ·rintro σ H3 ⟨⟨xs,es,e3,Z,le,a2,a3,Y,U⟩,o2,o3,rfl⟩
   rw[eB,a1.1.1] at Z a2
   have ee:es=ln:=oY (by rw[le,a1.1.1]) λ j hj=>by rw[a2 j,FX (by rw[a1.1.1] at hj;exact hj)]
   subst ee
   subst ap
   have a7:∀ {b:Addr},b≠acc->b≠J.en->b∉[acc,J.en]:=λ h1 h2 z=>by
    simp only[FR,FU,Ga] at z
    exact z.elim h1 h2
   have a8:H3 J.td=some (.lst tx):=U _ _ (a7 al W.ne) (s2 _ _ ZMU)
   have ae:=U _ _ (a7 (a5 ea) (a5 ZCe)) (s2 _ _ Z7y)
   have dl:=iB Y (a:=cO ls) (b:=cO es) (m:=A.many)
   have aw:∀ c us,H c=some Z40->H3 c=some Z40:=λ c us e=>U _ _ (a7 (cB e F) (λ z=>by rw[z,W.en.1] at e;cases e)) (s2 _ _ (s1 _ _ e))
   refine⟨_,rfl,J.kp,_,J.dx,_,_,rfl,ae,T.cl_Keeper,T.na_cn,rfl,.inl ⟨rfl,_,SqL.of a8⟩,_,rfl,J.td,acc,tx,xs,rfl,rfl,a8,e3,by rw[tn.len,Z.len];exact Gd (show _<=101500 by omega) Z4,_,rfl,?_⟩
   have an:∀ c us,H3 c=some Z40->upd H3 J.td (.lst (tx++xs)) c=some Z40:=λ c us e=>by rw[cz (λ z=>by rw[z,a8] at e;cases e)];exact e
   refine k acc xs es _ a1 (λ c o nc e=>?_) F (by rw[cz (Ne.symm al)];exact e3) (Z.keep an) (Y.put ⟨a8,ts.2⟩ kj) ⟨by rw[cz (a5 ZMU)];exact ae,W.nk,⟨_,⟨cy,ts.2⟩,((tn.keep aw).app Z).keep an⟩,⟨by rw[cz (Ne.symm W.ne)];exact a3.1,a3.2⟩,W.ne⟩
   simp only[FR,FU,Ga,Hz] at nc
   rw[cz nc.1]
   exact U _ _ (a7 (cB e F) nc.2) (s2 _ _ ZCK)
def Dq (_:W.Frag) (t:Adr):Sp:=λ vs H Q _=>∃ p dx lm td en xs,vs=[Zs]/\H p=some (.ins t.c_Keeper dx (kpF lm td en))/\H td=some ZQ/\∀ l,H l=none->Q Zg (upd H l ZQ)
theorem uV (T:ZJ):dk P w K mg base ZM 1 t.f_bt t.fd_bt ["self"] (Dq K t):=by
 refine T.F_bt.okN Fm Z6 (λ F A outer s H vs Q E W h=>?_)
 ·obtain⟨p,dx,V,td,J,xs,rfl,_⟩:=h;rfl
 ·obtain⟨p,dx,V,td,J,xs,rfl,O,U,k⟩:=h
  refine⟨_,(cE (cQ (dP (kr (K:=K)) rfl T.no_list jG Z1q))),?_⟩
  exact⟨_,rfl,p,_,dx,_,_,rfl,O,T.cl_Keeper,T.na_cn,rfl,td,xs,rfl,.inl (SqL.of U),k⟩
def Bm (K:W.Frag) (t:Adr):Sp:=λ vs H Q _=>∃ G L A n f fs,vs=[Zk,Z7H]/\Lo K t G H L A n/\n<=30/\SqL K H f ZAg/\f∉L.own A/\∀ v G' H' L' A',Stp G G' H H' L A L' A'->Lo K t G' H' L' A' n->Q v H'
theorem AR (T:ZJ):dk P w K mg base ZM 8 t.f_dw t.fd_dw ["loom","fallen"] (Bm K t):=by
 refine T.F_dw.okN yC Z6 (λ Z A outer s H vs Q E Y h=>?_)
 ·obtain⟨G,L,A,n,f,fs,rfl,_⟩:=h;rfl
 ·obtain⟨G,L,A,n,f,fs,rfl,lo,W,V,nf,k⟩:=h
  refine⟨_,(cD (cV (i:=2) yC.nd rfl Z5 (cU ZMN (Y.mono Z4) rfl T.mg_bf T.kp_bf T.b_bf .nil cH (cF ZX Zf)))
   (cD (cR (cW ZX T.cl_Loom T.me_cv (D7 (K:=K) T) (Y.mono Z4) T.b_cv .nil cH Z5O))
   Z3z)),?_⟩
  refine tcl Z5s ⟨G,L,A,n,f,fs,rfl,lo,W,V,λ p l pa ln ls ns H1 U nl ep el _ _ J=>?_⟩
  have F:=lo.same U
  refine tm ZL F.c.self rfl (vs:=[Z3G,Z7H]) (.cons (λ Q' q'=>⟨_,rfl,p,_,0,Z3G,rfl,rfl,SqT.of ep,rfl,q'⟩) Zd) ⟨G,L,A,n,l,ln,f,fs,rfl,F,W,Z39,λ z=>ZKC,U.seq V,nf,J.1,J.2.1,λ i hi=>lo.rise J hi,λ G' H' L' A' st O=>?_⟩
  exact⟨_,rfl,k _ G' H' L' A' ((Stp.of U).trans st) O⟩
noncomputable def frs (m c a b mm:Int):Z04:=[Z1M,ZAY,.int a,.int b,.int mm]
abbrev Fp (H:Hp) (f:Addr) (ws:Z04):Prop:=Clo H "_law_does" "_law_program.<locals>._law_does" qz ["_law_many","_law_cell","_law_a","_law_b","_law_m"] f ws
abbrev vB (t:Adr) (H:Hp):Prop:=lL H t.tb_bu (posOf qz) "_law_program.<locals>._law_does"
def A9 (t:Adr):Sp:=λ vs H Q _=>∃ m c:Int,vs=[Z1M,ZAY]/\vB t H /\
 ∀ f H' a b mm,H f=none->nM t.tb_bu H H'->vB t H'->Fp H' f (frs m c a b mm)->0<mm->(-(2 ^ 64)<a/\a<2 ^ 64)->(-(2 ^ 64)<b/\b<2 ^ 64)->Q Z06 H'
theorem qF (x) (h:0<=y):0<=Builtin.bitAnd x y/\Builtin.bitAnd x y<=y:=by
 unfold Builtin.bitAnd
 rw[Gg h]
 cases decide (0<=x) with
 | true=>
  have:=Nat.and_le_right (n:=x.toNat) (m:=y.toNat)
  show 0<=((x.toNat &&& y.toNat:Nat):Int)/\((x.toNat &&& y.toNat:Nat):Int)<=y
  lia
 | false=>
  have:=Nat.and_le_left (n:=y.toNat) (m:=(Z9X).toNat)
  show 0<=y-((y.toNat &&& (Z9X).toNat:Nat):Int)/\y-((y.toNat &&& (Z9X).toNat:Nat):Int)<=y
  lia
theorem CZ (T:ZJ) (V:ZDm):dk P w K mg base ZM 1 t.f_bu t.fd_bu ["_law_many","_law_cell"] (A9 t):=by
 refine T.F_bu.okM T.cde_bu oG Z6 (λ A outer s H vs Q E Y h=>?_)
 ·obtain⟨m,c,rfl,_⟩:=h;rfl
 ·obtain⟨m,c,rfl,U,k⟩:=h
  refine⟨_,(nC (cV (i:=2) oG.nd rfl Z1R Z2j)
   (nC (cV (i:=3) oG.nd rfl Z1R Z2j)
   (nC (cV (i:=4) oG.nd rfl Z1R Z2j)
   (xa qz rfl (F:=["_law_many","_law_cell","_law_a","_law_b","_law_m"]) (ix:=[0,1,2,3,4]) (i:=5) (qual:="_law_program.<locals>._law_does") V.tb_bu rfl oG.nd rfl rfl (λ _=>rfl) (zW rfl) Z4 BS iL.fre iL.isf)))),?_⟩
  refine⟨_,rfl,_,_,rfl,rfl,by show (0:Int)<=1;decide,_,_,rfl,rfl,_,_,rfl,rfl,?_⟩
  refine⟨_,rfl,_,_,rfl,rfl,by show (0:Int)<=8;decide,_,_,rfl,rfl,_,_,rfl,rfl,?_⟩
  refine⟨_,rfl,_,_,rfl,rfl,by show (0:Int)<=15;decide,_,_,rfl,rfl,_,_,rfl,rfl,?_⟩
  have Z:=qF (c/2 ^ (1:Int).toNat) (y:=127) Z4
  have r2:=qF (c/2 ^ (8:Int).toNat) (y:=127) Z4
  have r3:=qF (c/2 ^ (15:Int).toNat) (y:=1073741823) Z4
  refine⟨U,frs m c (1+Builtin.bitAnd (c/2 ^ (1:Int).toNat) 127) (1+Builtin.bitAnd (c/2 ^ (8:Int).toNat) 127) (101+Builtin.bitAnd (c/2 ^ (15:Int).toNat) 1073741823),rfl,λ j i e=>?_,λ f H1 W st J O=>k f H1 _ _ _ W st J O Z1 Z1 Z1⟩
  match j,e with
  | 0,e=>cases e;exact Z4H
  | 1,e=>cases e;exact Z4H
  | 2,e=>cases e;exact Z4H
  | 3,e=>cases e;exact Z4H
  | 4,e=>cases e;exact Z4H
  | _+5,e=>cases e
def Fg (K:W.Frag) (t:Adr):Sp:=λ vs H Q _=>∃ (c:Int) (m:Nat),vs=[Z1M,ZAY]/\m<=5 /\
 ∀ (l:Addr) (has:List Addr) (hbs:List iP) (H':Hp),cG H H'->H l=none->H' l=some (.lst Z5a)->has.length=m->hbs.length=m->(∀ (i:Nat) ha hb,has[i]? = some ha->hbs[i]? = some hb->jE t H' ha hb)->Q Zg H'
theorem DQ (T:ZJ):dk P w K mg base ZM 4 t.f_ci t.fd_ci ["_law_many","_law_cell"] (Fg K t):=by
 refine T.F_ci.okN qX Z6 ZB
 ·obtain⟨c,m,rfl,_⟩:=h;rfl
 ·obtain⟨c,m,rfl,m1,k⟩:=h
  refine⟨_,(cD (cV (i:=2) qX.nd rfl Z5 Z2g)
   (cD (dI PassesOwn.never rfl ZDH (cN (i:=3) qX.nd rfl Z5)
    (cD (cV (i:=4) qX.nd rfl Z5 (cU Z8C Z0 rfl T.mg_ct T.kp_ct T.b_ct .nil cH (cF ZI Z2s)))
   (cE (cR (dQ (K:=K) F5 Gj Gi dA ZV (cF (cY ZR (dS (cF (nO T.mk_Never rfl T.mg_Never) (cF (nO T.mk_Each rfl T.mg_Each) (cF Z0l (cF Z0l cC))))) (cS eg Z1F cJ) ZA) cC))))))
   Z3z)),?_⟩
  refine⟨Z4,λ l hl=>?_⟩
  refine⟨_,rfl,(m:Int),rfl,Z1,Z1,fE (lo:=0)
   (λ i σ H2=>(∃ (has:List Addr) (hbs:List iP),has.length=i/\hbs.length=i/\H2 l=some (.lst Z5a)/\cG H H2/\∀ (j:Nat) ha hb,has[j]? = some ha->hbs[j]? = some hb->ha≠l/\jE t H2 ha hb)/\∃ o1 o2,σ=[Z9f,Z5X,Z6E,o1,o2])
   ⟨⟨[],[],rfl,rfl,cy,cG.new hl,(λ j ha hb e=>by simp at e)⟩,_,_,rfl⟩ ?_ ?_⟩
  ·rintro i σ H2 hi ⟨⟨has,hbs,l1,l2,el,s2,hh⟩,o1,o2,rfl⟩
   refine tcl Z5s ⟨c,_,rfl,Z1,Z1,λ d=>?_⟩
   refine⟨_,rfl,.inl ⟨rfl,_,Z39⟩,?_⟩
   have fin:∀ (H6:Hp) (q:Addr) (hb:iP),cG H2 H6->H2 q=none->jE t H6 q hb ->
     ∃ (has':List Addr) (hbs':List iP),has'.length=i+1/\hbs'.length=i+1/\upd H6 l (.lst (has.map V.ref++[Z2P])) l=some (.lst (has'.map V.ref))/\cG H (upd H6 l (.lst (has.map V.ref++[Z2P]))) /\
      ∀ (j:Nat) ha hb,has'[j]? = some ha->hbs'[j]? = some hb->ha≠l/\jE t (upd H6 l (.lst (has.map V.ref++[Z2P]))) ha hb:=λ H6 q hb s6 nq hq=>by
    have up:∀ {ha:Addr} {hb:iP},ha≠l->jE t H6 ha hb->jE t (upd H6 l (.lst (has.map V.ref++[Z2P]))) ha hb:=λ{ha hb} n h=>by
     cases hb<;>exact let ⟨dx,z⟩:=h;⟨dx,by rw[cz n];exact z⟩
    refine⟨has++[q],hbs++[hb],by simp[l1],by simp[l2],by rw[cy,F0];rfl,λ c u e=>?_,λ j ha hb' e1 e2=>?_⟩
    ·rw[cz (cB e hl)];exact s6 _ _ Z8q
    ·rcases Jr j i with g|g|g
     ·rw[Gw Z1] at e1 e2
      obtain⟨n,h⟩:=hh j ha hb' e1 e2
      exact⟨n,up n (h.same s6)⟩
     ·subst g
      rw[ZLw,l1,Hs] at e1
      rw[ZLw,l2,Hs] at e2
      have n:q≠l:=λ z=>by rw[z,el] at nq;cases nq
      cases e1;cases e2
      exact⟨n,up n hq⟩
     ·rw[GK (by rw[FQ,F6];lia)] at e1;cases e1
   intro q1 x1 n1 m1' w1 q2 x2 n2 m2 w2
   have t0:=He (d/4) (b:=20) Z4
   have t1:=GR (d/4) (b:=20) Z4
   have t2:=He (d/4) (b:=4) Z4
   have t3:=GR (d/4) (b:=4) Z4
   refine⟨_,rfl,_,_,rfl,rfl,Z1U,_,_,rfl,rfl,by show (0:Int)<20;decide,_,_,rfl,rfl,λ q3 x3 n3 m3 w3=>⟨q3,x3,_,rfl,cy,Z1,Z1,rfl,?_⟩⟩
   refine⟨_,rfl,_,_,rfl,rfl,Z1U,_,_,rfl,rfl,by show (0:Int)<4;decide,_,_,rfl,rfl,λ q4 x4 n4 m4 w4=>⟨q4,x4,_,rfl,cy,Z1,Z1,rfl,by show 4<=sizeLine;decide,λ b nb=>?_⟩⟩
   have s1:=cG.ins (o:=.ins t.c_Never x1 []) n1 m1'
   have s2':=cG.ins (o:=.ins t.c_Each x2 []) n2 m2
   have s3:=cG.ins (o:=.ins t.c_Bundle x3 []) n3 m3
   generalize e1:upd (upd H2 x1 (HO.own q1)) q1 (HO.ins t.c_Never x1 [])=J1 at *
   generalize e2:upd (upd J1 x2 (HO.own q2)) q2 (HO.ins t.c_Each x2 [])=J2 at *
   generalize e3:upd (upd J2 x3 (HO.own q3)) q3 (HO.ins t.c_Bundle x3 [])=J3 at *
   have s4:cG J2 (upd J3 q3 (.ins t.c_Bundle x3 (cL "size" (.int (1+d/4%20)) []))):=λ c u e=>by
    rw[cz (cB e n3)];exact ZLE
   have h3:=cy (H:=J3) (a:=q3) (o:=.ins t.c_Bundle x3 (cL "size" (.int (1+d/4%20)) []))
   generalize upd J3 q3 (.ins t.c_Bundle x3 (cL "size" (.int (1+d/4%20)) []))=J4 at *
   have s5:=cG.ins (o:=.ins t.c_Bundle x4 []) n4 m4
   have s6:cG J4 (upd Z4D q4 (.ins t.c_Bundle x4 (cL "size" (.int (1+d/4%4)) []))):=λ c u e=>by
    rw[cz (cB e n4)];exact ZLD
   have h4:=cy (H:=Z4D) (a:=q4) (o:=.ins t.c_Bundle x4 (cL "size" (.int (1+d/4%4)) []))
   generalize upd (upd (upd J4 x4 (.own q4)) q4 (.ins t.c_Bundle x4 [])) q4 (.ins t.c_Bundle x4 (cL "size" (.int (1+d/4%4)) []))=J5 at *
   have s7:=cG.new (o:=.lst [.ref q1,.ref q2,.ref q3,.ref q4]) nb
   have sa4:=s6.trans s7
   have sa2:=s4.trans sa4
   have sa1:=s2'.trans sa2
   have sa:cG H2 _:=s1.trans sa1
   have cs:d%4=0\/d%4=1\/d%4=2\/d%4=3:=Z1
   have la':(Z5a).length<sizeLine:=by rw[FO];exact GI (show has.length<=5 by rw[GB] at hi;lia) Z4
   obtain⟨q,hb,i0,e,g,nq,hq⟩:∃ q hb,∃ i0:Nat,d%4=i0/\([V.ref q1,.ref q2,.ref q3,.ref q4]:List V)[i0]? = some (.ref q)/\H2 q=none/\jE t (upd J5 b (.lst [.ref q1,.ref q2,.ref q3,.ref q4])) q hb:=by
    rcases cs with e|e|e|e
    ·exact⟨q1,.never,0,e,rfl,n1,x1,sa1 _ _ (by rw[<- e1];exact cy)⟩
    ·exact⟨q2,.each,1,e,rfl,s1.free n2,x2,sa2 _ _ (by rw[<- e2];exact cy)⟩
    ·exact⟨q3,.bundle (1+d/4%20),2,e,rfl,(s1.trans s2').free n3,x3,sa4 _ _ h3⟩
    ·exact⟨q4,.bundle (1+d/4%4),3,e,rfl,(s1.trans (s2'.trans s4)).free n4,x4,s7 _ _ h4⟩
   exact⟨_,rfl,_,_,rfl,rfl,by show (0:Int)<4;decide,b,_,_,Z2P,rfl,rfl,Z83,(by rw[e];exact dW g),l,_,Z2P,rfl,rfl,sa _ _ el,la',fin _ q hb sa nq hq,_,_,rfl⟩
  ·rintro σ H2 ⟨⟨has,hbs,l1,l2,el,s2,hh⟩,o1,o2,rfl⟩
   rw[GB] at l1 l2
   exact⟨_,rfl,k l has hbs H2 s2 hl el l1 l2 λ j ha hb e1 e2=>(hh j ha hb e1 e2).2⟩
def ET (K:W.Frag) (t:Adr):Sp:=λ vs H Q _=>∃ a ns,vs=[Z_]/\SqL K H a Z1Z/\vB t H /\
 ∀ G H' L A,Lo K t G H' L A 0->SqL K H' a Z1Z->(a∉L.own A\/∀ H'',SqL K H'' a Z1Z)->(∀ i:Nat,0<=A.b i)->Q Zk H'
theorem AA (T:ZJ) (Tb:ZDm):dk P w K mg base ZM 5 t.f_dg t.fd_dg ["_law_script"] (ET K t):=by
 refine T.F_dg.okN pf Z6 ZB
 ·obtain⟨a,ns,rfl,_⟩:=h;rfl
 ·obtain⟨a,ns,rfl,ha,tab,k⟩:=h
  refine⟨_,(cD (cV (i:=1) pf.nd rfl Z5 ZO)
   (cD (cV (i:=2) pf.nd rfl Z5 (cS dM cJ Z1b))
   (cD (fF ["_law_script","_law_cell","_law_many","_law_starts","_law_habits_here","_law_hand"] 1 (i:=3) rfl pf.nd rfl Z5 (dF rfl T.no_range Z0x) (λ _ _ _ _ _=>⟨(cN (i:=5) (show List.Nodup (["_law_script","_law_cell","_law_many","_law_starts","_law_habits_here","_law_hand"]:ZT) from by decide +kernel) rfl Z5),dG,(cU Z8C Z0 rfl T.mg_ct T.kp_ct T.b_ct .nil cH (cF ZO Z4c))⟩))
   (cD (cV (i:=4) pf.nd rfl Z5 (cU (DQ (K:=K) T) Z0 rfl T.mg_ci T.kp_ci T.b_ci .nil cH ZGe))
   (cE (cQ (fI T.mk_Loom (Ce (K:=K) T) Z0 rfl T.mg_Loom T.b_de .nil cH (cF (cU (CZ (K:=K) T Tb) Z0 rfl T.mg_bu T.kp_bu T.b_bu .nil cH ZGe) (cF Z1E (cF Z1F (cF (eX hU Z1b cJ Z0Z) cC))))))))))),?_⟩
  refine tcl ZL0 ⟨a,ns,0,rfl,ha,Z4,λ c0=>?_⟩
  refine tcl ZL0 ⟨c0,0,rfl,Z4,Z4,λ d=>⟨_,_,rfl,rfl,by show (0:Int)<4;decide,_,_,rfl,rfl,?_⟩⟩
  have x0:=He d (b:=4) Z4
  have x1:=GR d (b:=4) Z4
  obtain⟨m,hm⟩:∃ m:Nat,2+d%4=(m:Int):=⟨(2+d%4).toNat,Z1⟩
  dsimp only
  rw[hm]
  refine⟨_,rfl,(m:Int),rfl,Z1,Z1,eO (n:=(m:Int).toNat) Z1 λ acc hacc=>⟨λ i σ2 ys H3=>(∃ sts,sts.length=i/\ys=iV sts/\H3 acc=some Zb/\cG H H3)/\∃ o,σ2=[Z4y,some (.int c0),Z9f,none,none,o],⟨⟨[],rfl,rfl,cy,ZAB⟩,_,rfl⟩,?_,?_,?_⟩⟩
  ·rintro i σ2 ys H3 hi ⟨⟨sts,len,rfl,_⟩,_⟩
   rw[eB];lia
  ·rintro i σ2 ys H3 hi ⟨⟨sts,len,rfl,e3,s3⟩,o,rfl⟩
   dsimp only[eh,gy]
   refine fC ⟨_,rfl,a,ns,1,rfl,s3.seq ha,Z4,λ c1=>⟨_,rfl,c1,_,rfl,Z1,Z1,λ e=>⟨e3,Nx.mk hi ⟨⟨sts++[e],by rw[FQ,len];rfl,j3,cy,λ c u z=>?_⟩,_,rfl⟩⟩⟩⟩
   rw[ZBQ];exact ZGD
  rintro σ2 ys H3 ⟨⟨sts,len,rfl,e3,s3⟩,o,rfl⟩
  rw[GB] at len
  refine⟨_,rfl,_,rfl,a,ns,2,rfl,s3.seq ha,Z4,λ c2=>⟨c2,m,rfl,Z1,λ lh has hbs H4 s4 nlh elh len1 len2 hab=>?_⟩⟩
  have s34:=Z7U
  have tab4:vB t H4:=lL.same (λ b o u e=>s34 _ _ e) (by obtain⟨ps,y⟩:=tab.get;rw[y,s34 _ _ y]) tab
  refine⟨_,rfl,_,rfl,a,ns,3,rfl,s34.seq ha,Z4,λ c3=>⟨m,c3,rfl,tab4,λ f H5 fa fb fm nf st tab5 clo p1 p2 p3=>?_⟩⟩
  have keep:∀ b o,H4 b=some o->(∀ ps,o≠.tbl ps)->H5 b=some o:=λ b o e nt=>st b o (λ z=>by
   obtain⟨ps,y⟩:=tab4.get
   rw[z,y] at e;exact nt ps (Z8e).symm) e
  have ha5:SqL K H5 a Z1Z:=by
   rcases s34.seq ha with (h|⟨o,h⟩)|h
   ·exact .inl (.inl (keep _ _ h λ ps z=>by cases z))
   ·exact .inl (.inr ⟨o,keep _ _ h λ ps z=>by cases z⟩)
   ·exact ZAZ
  have e5:=keep _ _ ZIL (λ ps z=>by cases z)
  have elh5:=keep _ _ elh (λ ps z=>by cases z)
  have hab5:∀ (i:Nat) h hb,has[i]? = some h->hbs[i]? = some hb->jE t H5 h hb:=λ i h hb z1 z2=>by
   have:=hab i h hb z1 z2
   cases hb<;>exact let ⟨dx,z⟩:=this;⟨dx,keep _ _ z λ ps z=>by cases z⟩
  refine⟨_,rfl,_,rfl,_,rfl,c0,1,rfl,Z4,Z4,λ d2=>⟨_,_,rfl,rfl,by show (0:Int)<2;decide,rfl,λ x dx nx ndx nex=>?_⟩⟩
  have s6:=cG.ins (o:=ZFj) nx ndx
  refine⟨H5,x,dx,f,acc,lh,m,has,hbs,_,sts,fa,fb,fm,c3,rfl,cy,s6,nx,SqL.of (s6 _ _ e5),len,SqL.of (s6 _ _ elh5),len1,len2,hab5,clo,p1,p2,p3,Z1,Z1,λ H7 L ep ow kp lo7=>Z2k⟩
  subst ep
  have keep7:∀ b o,H5 b=some o->H7 b=some o:=λ b o e=>kp b o (cB e nx) ZLC
  have no:∀ {o:HO},H5 a=some o->a∉L.own (vX m (decide (V.int (d2%2)=V.int 1)) (frs m c3 fa fb fm) sts hbs):=λ{o} e z=>by
   rcases ow a z with y|y
   ·exact cB e nx y
   ·rw[ZLC] at y;cases y
  refine k H5 H7 L _ lo7 ?_ ?_ λ _=>Z9U
  ·rcases ha5 with (h|⟨o,h⟩)|h
   ·exact .inl (.inl (keep7 _ _ h))
   ·exact .inl (.inr ⟨o,keep7 _ _ h⟩)
   ·exact ZAZ
  ·rcases ha5 with (h|⟨o,h⟩)|h
   ·exact .inl (no h)
   ·exact .inl (no h)
   ·exact .inr λ H''=>ZAZ
def gT (A:LoA) (H:Hp) (v:V):Prop:=∃ b,v=.ref b/\((∃ (j:Nat),j<A.many/\H b=some (.tup [.str "own",Z0r]))\/(∃ (j:Nat),j<A.many/\H b=some (.tup [.str "write",Z0r])) \/
 ∃ (j:Nat) (c:Addr) (l:fk),j<A.many/\H b=some (.tup [.str "use",Z0r,ZEL])/\H c=some Z9c/\l∈A.A.po/\l.nm∉A.A.ta.map (·.1)/\l.to=j/\(A.ord=true->∀ l'∈A.A.po,l'.nm∉A.A.ta.map (·.1)->l'.nm.1=l.nm.1->l'.to=l.to->cd3 l.nm<=cd3 l'.nm))
theorem gT.keep (s:∀ b xs,H b=some ZU->H' b=some ZU) (h:gT A H v):ZIZ:=by
 obtain⟨b,e,h⟩:=h
 refine⟨b,e,?_⟩
 rcases h with ⟨j,h1,h2⟩|⟨j,h1,h2⟩|⟨j,c,l,h1,h2,F,J⟩
 ·exact ZCH
 ·exact .inr ZCH
 ·exact .inr (.inr ⟨j,c,l,h1,s _ _ h2,s _ _ F,J⟩)
theorem oB:∀ {F:List (Addr×Int×Int)},(∀ x∈F,H x.1=some Zu)->eF K H (F.map λ x=>Z3q) ((F.map (·.2)).map prD)
 | [],_=>.nil
 | x::F,h=>.cons (.tup (SqT.of ZGM) Z2M) (oB λ y J=>h y (FW _ J))
def C5 (A:LoA) (L:LoL) (H4:Hp) (fl wl ds:Addr) (ns:Z1L) (i:Nat) (σ:St) (H:Hp):Prop:=∃ (fs:List V) (qs:List (Addr×Int×Int)) (o4 o5:Option V),H fl=some (.lst fs)/\fs.length<=i/\(∀ v∈fs,gT A H v)/\H wl=some (.lst (qs.map λ x:Addr×Int×Int=>Z3q))/\qs.length<=i/\(∀ x∈qs,H x.1=some Zu) /\
 (∀ j,j<i->∀ x∈A.A.po,ns[j]? = some x.nm->(x.nm.1,x.to)∈qs.map (·.2))/\(∀ c u,c≠fl->c≠wl->H4 c=some u->H c=some u)/\σ=[ZE,ZK5,ZK4,some ZJq,o4,o5,none]
def Dk (K:W.Frag) (t:Adr):Sp:=λ vs H Q _=>∃ G L A n,vs=[Zk]/\Lo K t G H L A n/\n<=30/\∀ l ds H',cG H H'->H l=none->H' l=some (.lst ds)->0<ds.length->ds.length<=300->(∀ v∈ds,ZIZ)->Q Zg H'
theorem nW {A:LoA}{H:Hp}{hl:Addr}{w:Str}{x0 x1 x2 x3 x4 x5:ZCn}{Q:VK}(m5:A.many<=5) (hw:w = "own" \/ w = "write") (hh:H hl=some (.lst (iV (gM 0 (A.many:Int)))))
  (k:∀ l ds H',cG H H'->H l=none->H' l=some (.lst ds)->ds.length=A.many->(∀ v∈ds,ZIZ)->Q Zg H'):sj (qS K (dZ 6)) 1 (eh 7) gy (DW (gg (tC (.str w)) (gg (dZ 7) lD))) [x0,x1,x2,x3,x4,x5,ZK3] H Q:=by
 have rl:(iV (gM 0 (A.many:Int))).length=A.many:=by rw[eB,gu];omega
 refine⟨_,rfl,hl,rfl,⟨_,SqL.of hh⟩,dU (xs:=iV (gM 0 (A.many:Int))) ZC λ acc F=>⟨λ i O ys H2=>(ys.length=i/\H2 acc=some Zb/\cG H H2/\∀ v∈ys,gT A H2 v)/\∃ o,O=[x0,x1,x2,x3,x4,x5,ZK3,o],⟨⟨rfl,cy,Z81,(λ v U=>by cases U)⟩,_,rfl⟩,?_,?_,?_⟩⟩
 ·rintro i O ys H2 hi ⟨⟨J,_,W,_⟩,_⟩
  exact⟨SqL.of (W _ _ hh),ZC⟩
 ·rintro i x O ys H2 hi hx ⟨⟨J,Z,W,al⟩,o,rfl⟩
  obtain⟨j,rfl,hj⟩:=iO hx
  have rg:=gB.mp (FT hj)
  dsimp only[eh,gy]
  refine fC ⟨_,rfl,by show 2<=sizeLine;decide,λ p np=>?_⟩
  have Y:=cG.new (o:=ZHF) np
  have e3:=cy (H:=H2) (a:=p) (o:=ZHF)
  generalize upd H2 p (.tup [.str w,.int j])=H3 at Y e3 ⊢
  have tk:∀ c xs,H3 c=some ZU->upd H3 acc (.lst (ys++[Zs])) c=some ZU:=λ c xs e=>by rw[cz (λ z=>by rw[z,Y _ _ Z] at e;cases e)];exact e
  refine⟨Y _ _ Z,Nx.mk hi ⟨⟨by rw[FQ,J];rfl,cy,λ c u e=>?_,λ v U=>?_⟩,_,rfl⟩⟩
  ·rw[Z3R];exact Y _ _ (W _ _ e)
  ·rcases FY.mp U with U|U
   ·exact(al v U).keep λ c xs e=>tk _ _ (Y _ _ e)
   ·rw[FL] at U
    subst U
    have ej:V.int j=V.int (j.toNat:Int):=by rw[Int.toNat_of_nonneg rg.1]
    rw[ej] at e3
    rcases hw with rfl|rfl
    ·exact⟨p,rfl,Z8k⟩
    ·exact⟨p,rfl,.inr Z8k⟩
 ·rintro O ys H2 ⟨⟨J,Z,W,al⟩,o,rfl⟩
  exact k acc ys H2 W F Z (J.trans rl) al
theorem EM (T:ZJ):dk P w K mg base ZM 2 t.f_bv t.fd_bv ["_law_loom_here"] (Dk K t):=by
 refine T.F_bv.okN kB Z6 ZB
 ·obtain⟨G,L,A,n,rfl,_⟩:=h;rfl
 ·obtain⟨G,L,A,n,rfl,lo,hn,k⟩:=h
  refine⟨_,(cD (cV (i:=1) kB.nd rfl Z5 (cX ZX T.cl_Loom T.me_aj ZMJ Z0 T.b_aj .nil cH))
   (cD (cV (i:=2) kB.nd rfl Z5 Z2g)
   (cD (cV (i:=3) kB.nd rfl Z5 Z2g)
   (cD (dI PassesOwn.never rfl (dD (K:=K) (cX ZX T.cl_Loom T.me_dd (DF (K:=K) T) Z0 T.b_dd .nil cH)) (cN (i:=4) kB.nd rfl Z5)
    (cD (cV (i:=5) kB.nd rfl Z5 (eC (cF (cY Zm Z1F cJ ZA) (cF Z8Q cC))))
   (cD (dy (PW.pt (hZ (eE (dN Z2)) (gS (cZ (sX hr.units (K:=K)) Z1O Z1E (by with_unfolding_all rfl)))))
    (cE (cR (dQ (K:=K) F5 Gj Gi dA ZV (cF (eC (cF gY (cF Z8Q Z3a))) cC))))
    da)
   (cE (cR (dQ (K:=K) F5 Gj Gi dA Z1E Z4c))))))
   (cD (cV (i:=6) kB.nd rfl Z5 Z2r)
   (cE (cQ (cS qc (cS qc (cS qc ZV ZV) (dH ["_law_loom_here","_law_sent","_law_found","_law_ways","_law_name","_law_way","_law_hands","_law_hand"] 1 rfl ZAk (λ _ _ _ _ _=>⟨(cN (i:=7) (show List.Nodup (["_law_loom_here","_law_sent","_law_found","_law_ways","_law_name","_law_way","_law_hands","_law_hand"]:ZT) from by decide +kernel) rfl Z5),dG,ZHz⟩))) (dH ["_law_loom_here","_law_sent","_law_found","_law_ways","_law_name","_law_way","_law_hands","_law_hand"] 1 rfl ZAk (λ _ _ _ _ _=>⟨(cN (i:=7) (show List.Nodup (["_law_loom_here","_law_sent","_law_found","_law_ways","_law_name","_law_way","_law_hands","_law_hand"]:ZT) from by decide +kernel) rfl Z5),dG,ZHz⟩)))))))))),?_⟩
  refine Z16
  have m2:=lo.m2
  refine tm ZL lo.c.self rfl .nil ⟨G,L,A,n,rfl,lo,hn,λ ds H1 s1 nds eds=>?_⟩
  refine(sn ee1 λ rr2 ee2=>?_:Z5E)
  refine⟨Z4,λ fl nfl=>?_⟩
  have s2:=cG.new (o:=Zr) nfl
  have e2:=cy (H:=H1) (a:=fl) (o:=Zr)
  generalize upd H1 fl (.lst [])=H2 at s2 e2 ⊢
  refine(sn ee2 λ rr3 ee3=>?_:Z6H)
  refine⟨Z4,λ wl nwl=>?_⟩
  have s3:=cG.new (o:=Zr) nwl
  have e3:=cy (H:=H2) (a:=wl) (o:=Zr)
  generalize upd H2 wl (.lst [])=H3 at s3 e3 ⊢
  have s03:=(Z4J).trans s3
  refine(sn ee3 λ rr4 ee4=>?_:ZA1)
  refine tm ZL (lo.same s03).c.self rfl .nil ⟨G,L,A,n,rfl,lo.same s03,hn,λ r ls ns H4 s4 nr er nl as pm=>?_⟩
  have s04:=s03.trans s4
  have el4:=(Z7U) _ _ e2
  have ew4:=ZIL
  have ed4:=(ZKv) _ _ eds
  have lw:fl≠wl:=λ z=>by rw[<- z,e2] at nwl;cases nwl
  have rl:r≠fl:=λ z=>by rw[z,ZDo] at nr;cases nr
  have rw':r≠wl:=λ z=>by rw[z,e3] at nr;cases nr
  have dl:ds≠fl:=λ z=>by rw[z,el4] at ed4;cases ed4
  have dw:ds≠wl:=λ z=>by rw[z,ew4] at ed4;cases ed4
  have nfl0:H fl=none:=s1.free nfl
  have nwl0:H wl=none:=(Z4J).free nwl
  have nsl:ns.length<=90:=by
   rw[pm.length_eq,FO]
   have:=GU (λ l:fk=>decide (l.nm∉A.A.ta.map (·.1))) A.A.po
   have:=lo.bn
   unfold DiA.free;omega
  have lsl:=nl.len
  have frame:∀ {H5:Hp},(∀ c u,c≠fl->c≠wl->H4 c=some u->H5 c=some u)->cG H H5:=λ{H5} h c u e=>h c u (cB e nfl0) (cB e nwl0) (s04 _ _ e)
  refine⟨r,rfl,⟨_,SqL.of er⟩,gz (xs:=ls) (C5 A L H4 fl wl ds ns) ⟨[],[],_,_,el4,Z9,(λ v hv=>by cases hv),ew4,Nat.le_refl _,(λ x hx=>by cases hx),(λ j hj=>absurd hj (JH _)),λ c u _ _ e=>e,rfl⟩ ?_ ?_ ?_⟩
  ·rintro i σ2 H5 _ ⟨fs,qs,o4,o5,_,_,_,_,_,_,_,fr,_⟩
   exact SqL.of (fr _ _ rl rw' er)
  ·rintro i x σ2 H5 hx ⟨fs,qs,o4,o5,f1,f2,f3,f4,f5,f6,f7,fr,rfl⟩
   have i90:i<90:=by have:=Z0s;omega
   obtain⟨n0,b,rfl,hb⟩:∃ n0,hX H4 x n0:=⟨_,nl.all x ZJo⟩
   have hn0:ns[i]? = some n0:=by
    rw[<- nl.eq,FP,hx]
    exact congrArg some (hX.of ZBC)
   obtain⟨l0,hl0,rfl⟩:=F2.mp (pm.mem_iff.mp (FT hn0))
   obtain⟨hp0,ht0⟩:=GG.mp hl0
   have ht0:l0.nm∉A.A.ta.map (·.1):=GH ht0
   have v1:eu (A.A.po.map λ l=>(Z0i,Z0P)) (nk l0.nm)=some (ZAU):=eS (λ l:fk=>Z0i) ZAc ZAi hp0
   have rg:=lo.wf.rg l0 hp0
   have tup5:∀ {c xs},H4 c=some ZU->H5 c=some ZU:=λ{c xs} e=>fr _ _ (λ z=>by rw[z,el4] at e;cases e) (λ z=>by rw[z,ew4] at e;cases e) e
   have hb5:=tup5 hb
   have ha5:=tup5 (s04 _ _ (lo.c.held _ _ (lo.c.di.lets l0 hp0)))
   have hd5:=fr _ _ dl dw ed4
   refine⟨_,rfl,b,_,0,.int l0.nm.1,rfl,rfl,SqT.of hb5,dR,_,rfl,_,rfl,ds,ZAU,rfl,.inr ⟨_,nk l0.nm,b,.inl hd5,rfl,hb5,v1.symm⟩,l0.adr,_,0,Z2J,rfl,rfl,SqT.of ha5,dR,by show 2<=sizeLine;decide,λ kb hkb=>?_⟩
   have s6:=cG.new (o:=Z5j) hkb
   have hb6:=s6 _ _ hb5
   have ha6:=s6 _ _ ha5
   have hd6:=s6 _ _ hd5
   have g1:=s6 _ _ f1
   have g3:∀ v∈fs,gT A _ v:=λ v hv=>(f3 v hv).keep λ c xs e=>ZLC
   have g4:=s6 _ _ f4
   have g6:∀ x∈qs,_=_:=λ x hx=>s6 _ _ (f6 x hx)
   have gk:=cy (H:=H5) (a:=kb) (o:=Z5j)
   have g7:∀ c u,c≠fl->c≠wl->H4 c=some u->upd H5 kb Z5j c=some u:=λ c u n1 n2 e=>s6 _ _ (fr c u n1 n2 e)
   generalize upd H5 kb (.tup [.int l0.nm.1,.int l0.to])=H6 at s6 hb6 ha6 hd6 g1 g3 g4 g6 gk g7 ⊢
   have fin:∀ (H7:Hp) (fs':List V),H7 fl=some (.lst fs')->fs'.length<=i+1->(∀ v∈fs',gT A H7 v)->(∀ c u,c≠fl->H6 c=some u->H7 c=some u) ->
     j5 ZJq [ZJP] H7 λ _=>C5 A L H4 fl wl ds ns (i+1) [ZE,ZK5,ZK4,some ZJq,Z9y,some ZJP,none]:=λ H7 fs' a1 a2 a3 a4=>by
    have w7:=a4 _ _ (Ne.symm lw) g4
    have tk:∀ c xs,H7 c=some ZU->upd H7 wl (.lst ((qs.map λ x:Addr×Int×Int=>Z3q)++[ZJP])) c=some ZU:=λ c xs e=>by rw[cz (λ z=>by rw[z,w7] at e;cases e)];exact e
    have t6:∀ c xs,H6 c=some ZU->H7 c=some ZU:=λ c xs e=>a4 _ _ (λ z=>by rw[z,g1] at e;cases e) e
    refine⟨wl,_,ZJP,rfl,rfl,w7,dc (by rw[FO];omega),fs',qs++[(kb,l0.nm.1,l0.to)],_,_,by rw[cz lw];exact a1,a2,λ v hv=>(a3 v hv).keep tk,by rw[cy,F0];rfl,by rw[FQ,F6];omega,λ x hx=>?_,λ j hj x hx ej=>?_,λ c u n1 n2 e=>by rw[cz n2];exact a4 c u n1 (g7 c u n1 n2 e),rfl⟩
    ·rcases FY.mp hx with hx|hx
     ·exact tk _ _ (t6 _ _ (g6 x hx))
     ·rw[FL] at hx
      subst hx
      exact tk _ _ (t6 _ _ gk)
    ·rw[F0,FY]
     rcases Nat.lt_succ_iff_lt_or_eq.mp hj with q|q
     ·exact .inl (f7 j q x hx ej)
     ·rw[q,hn0] at ej
      rw[fW lo.wf.nd hx hp0 (Option.some.inj ej).symm]
      exact .inr (FL.mpr rfl)
   have use:∀ ub,H6 ub=none->(A.ord=true->(l0.nm.1,l0.to)∉qs.map (·.2))->∀ v∈fs++[.ref ub],gT A (upd (upd H6 ub (.tup [.str "use",Z2J,Zj])) fl (.lst (fs++[.ref ub]))) v:=λ ub nub hv v hv'=>by
    have s7:=cG.new (o:=.tup [.str "use",Z2J,Zj]) nub
    have tp:∀ c xs,upd H6 ub (.tup [.str "use",Z2J,Zj]) c=some ZU->upd (upd H6 ub (.tup [.str "use",Z2J,Zj])) fl (.lst (fs++[.ref ub])) c=some ZU:=λ c xs e=>by
     rw[cz (λ z=>by rw[z,s7 _ _ g1] at e;cases e)];exact e
    rcases FY.mp hv' with z|z
    ·exact(g3 v z).keep λ c xs e=>tp _ _ ZLB
    ·rw[FL] at z
     subst z
     refine⟨ub,rfl,.inr (.inr ⟨l0.to.toNat,b,l0,ZC,?_,tp _ _ (s7 _ _ hb6),hp0,ht0,ZC,λ ho l' hl' nt' e1 e2=>?_⟩)⟩
     ·rw[Int.toNat_of_nonneg rg.2.2.2.2.2.2.1];exact tp _ _ cy
     ·have hv:=hv ho
      have m':l'.nm∈ns:=pm.mem_iff.mpr (F4 (GG.mpr ⟨hl',by simpa using nt'⟩))
      obtain⟨j,hj⟩:=HA m'
      rcases Jr j i with q|q|q
      ·have:=f7 j q l' hl' hj
       rw[e1,e2] at this;exact absurd this hv
      ·rw[q,hn0] at hj
       rw[Option.some.inj hj];exact Z9U
      ·obtain⟨b1,c1⟩:=FK.mp hn0
       obtain⟨b2,c2⟩:=FK.mp hj
       have:=Iu.mp as i j b1 b2 q
       rw[c1,c2] at this
       omega
   have wl6:∀ (H7:Hp),(∀ c u,c≠fl->H6 c=some u->H7 c=some u)->SqL K H7 wl (qs.map λ x:Addr×Int×Int=>Z3q):=λ H7 a=>SqL.of (a _ _ (Ne.symm lw) g4)
   have put:∀ ub,H6 ub=none->∀ c u,c≠fl->H6 c=some u->upd (upd H6 ub (.tup [.str "use",Z2J,Zj])) fl (.lst (fs++[.ref ub])) c=some u:=λ ub nub c u nc e=>by rw[ZH0];exact cG.new nub _ _ e
   refine⟨_,rfl,L.p,_,L.dx,_,_,rfl,s6 _ _ (frame fr _ _ lo.c.self),T.cl_Loom,T.na_bw,rfl,A.ord,rfl,fY (λ z=>fC ?_) λ z=>?_⟩
   ·refine⟨_,rfl,ZB8,_,rfl,_,rfl,ds,ZAU,rfl,Z4t,l0.adr,_,0,Z2J,rfl,rfl,SqT.of ha6,dR,_,rfl,by show 3<=sizeLine;decide,λ ub nub=>Z46⟩
    exact⟨_,rfl,Z7f,_,rfl,fin _ _ cy (by rw[FQ,F6];omega) (use ub nub λ h=>by rw[h] at z;cases z) (put ub nub)⟩
   ·refine⟨_,rfl,_,rfl,kb,wl,(l0.nm.1,l0.to),qs.map (·.2),rfl,rfl,.tup (SqT.of gk) Z2M,.lst (SqL.of g4) (oB g6),_,rfl,ZIa⟩
    ·refine⟨_,rfl,ZB8,_,rfl,_,rfl,ds,ZAU,rfl,Z4t,l0.adr,_,0,Z2J,rfl,rfl,SqT.of ha6,dR,_,rfl,by show 3<=sizeLine;decide,λ ub nub=>Z46⟩
     exact⟨_,rfl,Z7f,_,rfl,fin _ _ cy (by rw[FQ,F6];omega) (use ub nub λ _=>GH y) (put ub nub)⟩
    ·exact⟨_,rfl,.inl ⟨rfl,_,wl6 H6 λ c u _ e=>e⟩,_,rfl,fin H6 fs g1 ZC g3 λ c u _ e=>e⟩
  ·rintro σ2 H5 ⟨fs,qs,o4,o5,f1,f2,f3,f4,f5,f6,f7,fr,rfl⟩
   refine(sn ee4 λ rr5 ee5=>?_:ZA0)
   have s5:=frame fr
   refine⟨_,rfl,L.p,_,L.dx,_,_,rfl,s5 _ _ lo.c.self,T.cl_Loom,T.na_dk,rfl,A.many,rfl,λ r2 nr2=>?_⟩
   refine⟨r2,0,A.many,rfl,cy,⟨ZC,ZC,ZC,ZC⟩,ZC,λ hl nhl=>?_⟩
   have s56:=(cG.new (o:=.rng 0 (A.many:Int)) nr2).trans (cG.new (o:=.lst (iV (gM 0 (A.many:Int)))) nhl)
   have ehl:=cy (H:=upd H5 r2 (.rng 0 (A.many:Int))) (a:=hl) (o:=.lst (iV (gM 0 (A.many:Int))))
   generalize upd (upd H5 r2 (.rng 0 (A.many:Int))) hl (.lst (iV (gM 0 (A.many:Int))))=H6 at s56 ehl ⊢
   subst ee5
   have e6:=s56 _ _ f1
   have t6:∀ v∈fs,gT A H6 v:=λ v hv=>(f3 v hv).keep λ c xs e=>s56 _ _ e
   refine⟨_,rfl,_,rfl,fl,fl,fs,fs,rfl,rfl,e6,e6,Ic (dc ZC),λ p1 n1=>?_⟩
   have s7:=cG.new (o:=.lst (fs++fs)) n1
   have e7:=cy (H:=H6) (a:=p1) (o:=.lst (fs++fs))
   generalize upd H6 p1 (.lst (fs++fs))=H7 at s7 e7 ⊢
   refine nW m2.2 Z0N (s7 _ _ ehl) λ a8 d8 H8 s8 n8 e8 l8 al8=>?_
   refine⟨p1,a8,_,d8,rfl,rfl,s8 _ _ e7,e8,Ic (dc (by rw[FQ];omega)),λ p2 n2=>?_⟩
   have s9:=cG.new (o:=.lst ((fs++fs)++d8)) n2
   have e9:=cy (H:=H8) (a:=p2) (o:=.lst ((fs++fs)++d8))
   generalize upd H8 p2 (.lst ((fs++fs)++d8))=H9 at s9 e9 ⊢
   refine nW m2.2 Z5k (s9 _ _ (s8 _ _ (s7 _ _ ehl))) λ a10 d10 H10 s10 n10 e10 l10 al10=>?_
   refine⟨p2,a10,_,d10,rfl,rfl,s10 _ _ e9,e10,Ic (dc (by rw[FQ,FQ];omega)),λ p3 n3=>?_⟩
   have s11:=cG.new (o:=.lst (((fs++fs)++d8)++d10)) n3
   have s78:=s7.trans s8
   have s710:=s78.trans (s9.trans s10)
   refine k p3 _ _ ((s5.trans s56).trans (s710.trans s11)) (((s5.trans s56).trans s710).free n3) cy (by rw[FQ];omega) (by rw[FQ,FQ,FQ];omega) λ v hv=>?_
   rcases FY.mp hv with hv|hv
   ·rcases FY.mp hv with hv|hv
    ·have:v∈fs:=(FY.mp hv).elim id id
     exact(t6 v this).keep λ c xs e=>s11 _ _ (s710 _ _ e)
    ·exact(al8 v hv).keep λ c xs e=>s11 _ _ (s10 _ _ (s9 _ _ e))
   ·exact(al10 v hv).keep λ c xs e=>s11 _ _ e
def AN (K:W.Frag) (t:Adr):Sp:=λ vs H Q _=>∃ G L A n b,vs=[Zk,Zj]/\Lo K t G H L A n/\n<30/\gT A H (Zj)/\∀ G' H' L' A',Stp G G' H H' L A L' A'->Lo K t G' H' L' A' (n+1)->Q .non H'
theorem Dc (T:ZJ):dk P w K mg base ZM 7 t.f_dq t.fd_dq ["_law_loom_here","_law_row"] (AN K t):=by
 refine T.F_dq.okN EC Z6 ZB
 ·obtain⟨G,L,A,n,b,rfl,_⟩:=h;rfl
 ·obtain⟨G,L,A,n,b,rfl,lo,nn,de,k⟩:=h
  refine⟨_,(cE (dy ZGd
    (cE (cR (cW ZX T.cl_Loom T.me_dn (C3 (K:=K) T) Z0 T.b_dn .nil cH ZFx)))
    (cE (dy ZGd
    (cE (cR (cW ZX T.cl_Loom T.me_dp (Ci (K:=K) T) Z0 T.b_dp .nil cH (cF Z0y ZFx))))
    (cE (cR (cW ZX T.cl_Loom T.me_cu (Ds (K:=K) T) Z0 T.b_cu .nil cH ZFx))))))),?_⟩
  obtain⟨b',e,de⟩:=de
  cases e
  have ix:∀ {xs:List V} {i:Nat} {v:V},H b=some ZU->xs[i]? = some v->Ev (tOp (x8 K) ZAj ZMR) [ZE,Z9y] H v:=λ{xs i v} hb hv Q q=>⟨_,rfl,b,xs,i,v,rfl,rfl,Z5J,dW hv,q⟩
  rcases de with ⟨j,j1,hb⟩|⟨j,j1,hb⟩|⟨j,cc,l0,j1,hb,hc,p1,p2,p3,p4⟩
  ·refine⟨_,rfl,b,_,0,.str "own",rfl,rfl,Z5J,dR,rfl,_,rfl,gE Z4 ?_⟩
   exact Z1l
  ·refine⟨_,rfl,b,_,0,.str "write",rfl,rfl,Z5J,dR,rfl,_,rfl,eA Z4 ⟨_,rfl,b,_,0,.str "write",rfl,rfl,Z5J,dR,rfl,_,rfl,eA Z4 ?_⟩⟩
   exact Z1l
  ·refine⟨_,rfl,b,_,0,.str "use",rfl,rfl,Z5J,dR,rfl,_,rfl,eA Z4 ⟨_,rfl,b,_,0,.str "use",rfl,rfl,Z5J,dR,rfl,_,rfl,gE Z4 ?_⟩⟩
   exact tm ZL lo.c.self rfl (.cons (ix (i:=1) hb rfl) (.cons (ix (i:=2) hb rfl) .nil)) ⟨G,L,A,n,j,cc,l0,rfl,lo,nn,j1,hc,p1,p2,p3,p4,k⟩
def E6 (K:W.Frag):Sp:=λ vs H Q _=>∃ (c:Int) (m:Nat),vs=[Z1M,ZAY]/\m<=5/\∀ l fs H',cG H H'->H l=none->H' l=some (.lst ZAg)->Q Zg H'
theorem C1 (T:ZJ):dk P w K mg base ZM 1 t.f_dh t.fd_dh ["_law_many","_law_number"] (E6 K):=by
 refine T.F_dh.okN EA Z6 (λ Y A outer s H vs Q E Z h=>?_)
 ·obtain⟨c,m,rfl,_⟩:=h;rfl
 ·obtain⟨c,m,rfl,m1,k⟩:=h
  refine⟨_,(cE (cQ (dH ["_law_many","_law_number","_law_hand"] 1 rfl ZDH (λ _ _ _ _ _=>⟨(cN (i:=2) (show List.Nodup (["_law_many","_law_number","_law_hand"]:ZT) from by decide +kernel) rfl Z5),(iD (cZ hU (cS iR (cS kx ZI ZV) cJ) cJ Z0Z)),ZV⟩)))),?_⟩
  refine⟨_,rfl,(m:Int),rfl,Z1,Z1,eO (n:=(m:Int).toNat) Z1 λ acc F=>⟨λ i J ys O=>(∃ fs,fs.length<=i/\ys=iV fs/\O acc=some Zb/\cG H O)/\∃ o,J=[Z9f,Z5X,o],⟨⟨[],Z9,rfl,cy,Z81⟩,_,rfl⟩,?_,?_,?_⟩⟩
  ·rintro i J ys O hi ⟨⟨fs,U,rfl,_⟩,_⟩
   rw[eB];lia
  ·rintro i J ys O hi ⟨⟨fs,U,rfl,V,W⟩,o,rfl⟩
   dsimp only[eh]
   refine⟨_,rfl,_,rfl,_,_,rfl,rfl,Z1,_,_,rfl,rfl,rfl,_,rfl,fY (λ z=>⟨_,rfl,V,Nx.mk hi ⟨⟨fs++[0+(i:Int)],by rw[FQ,F6];lia,j3,cy,λ b u e=>?_⟩,_,rfl⟩⟩) λ z=>Nx.mk hi ⟨⟨fs,Z1,rfl,V,W⟩,_,rfl⟩⟩
   rw[Z3R];exact W _ _ e
  ·rintro J ys O ⟨⟨fs,U,rfl,V,W⟩,o,rfl⟩
   exact k acc fs O W F V
def C8 (K:W.Frag) (t:Adr):Sp:=λ vs H Q _=>∃ G L A n lb la bs ls,vs=[Zk,.ref lb,.ref la]/\Lo K t G H L A n/\n<=30/\SqL K H lb (iV bs)/\SqL K H la ZJd/\Bse A bs/\ls.length=A.many/\(∀ j:Nat,j<A.many->0<=cO ls j/\cO ls j<=cO bs j) /\
 ∀ l xs H',cG H H'->H l=none->H' l=some ZQ->NmL H' xs (due A.ths Z5o ZJh A.many)->Q Zg H'
theorem CK (T:ZJ):dk P w K mg base ZM 6 t.f_dr t.fd_dr ["_law_loom_here","_law_base","_law_last"] (C8 K t):=by
 refine T.F_dr.okN l4 Z6 (λ a9 A outer s H vs Q E hr h=>?_)
 ·obtain⟨G,L,A,n,lb,la,bs,ls,rfl,_⟩:=h;rfl
 ·obtain⟨G,L,A,n,lb,la,bs,ls,rfl,lo,hn,hb,ha,a1,ll,le,k⟩:=h
  refine⟨_,(cD (cV (i:=3) l4.nd rfl Z5 Z2g)
   (cD (dI PassesOwn.never rfl ZDI (cN (i:=4) l4.nd rfl Z5)
    (cD (cV (i:=5) l4.nd rfl Z5 (cW ZX T.cl_Loom T.me_bg Z8B Z0 T.b_bg .nil cH Z3a))
   (cE (dI PassesOwn.never rfl (sZ rfl T.no_range (cF (cS dM (cY ZR ZV Z1F ZA) cJ) (cF (cS dM (cY ZR ZI Z1F ZA) cJ) cC))) (cN (i:=6) l4.nd rfl Z5)
    (cE (dI PassesOwn.never rfl (dD (K:=K) (cY ZR Z1O (cS mU Z5y cJ) ZA)) (cN (i:=7) l4.nd rfl Z5)
    (cE (cR (dQ (K:=K) F5 Gj Gi dA Z1E (cF (eC (cF Z1F (cF Z5y Z7K))) cC))))))))))
   (cE (cQ Z1E)))),?_⟩
  refine sq λ a8 a5=>?_
  have m2:=lo.m2
  refine⟨Z4,λ acc V=>?_⟩
  refine(sn a5 λ aa a6=>?_:a8 _ _ _)
  have s1:=cG.new (o:=Zr) V
  have ea:=Z4i
  generalize upd H acc (.lst [])=H1 at s1 ea ⊢
  have sm:∀ {H':Hp},But ZIo H1 H'->cG H H':=λ bt c o e=>bt c o (by rw[FL];exact cB e V) ZCK
  refine⟨_,rfl,L.p,_,L.dx,_,_,rfl,(Z2m).c.self,T.cl_Loom,T.na_dk,rfl,(A.many:Int),rfl,Z1,Z1,fE (lo:=0) (n:=A.many) (λ i σ H'=>(∃ xs,H' acc=some ZQ/\NmL H' xs (due A.ths Z5o ZJh i)/\But ZIo H1 H')/\∃ o4 o5 o6 W,σ=[ZE,ZBG,Z4Q,Z5W,o4,o5,o6,W]) ⟨⟨[],ea,.nil,λ _ _ _ e=>e⟩,_,_,_,_,rfl⟩ ?_ ?_⟩
  ·rintro i σ H2 hi ⟨⟨xs,e2,Z,J⟩,o4,o5,o6,W,rfl⟩
   rw[JE]
   have a2:=lo.same (sm J)
   obtain⟨T0,hT⟩:∃ T0,A.ths[i]? = some T0:=⟨_,FJ (by rw[lo.c.len2];exact hi)⟩
   refine tm ZL a2.c.self rfl Zd ⟨G,L,A,n,i,T0,rfl,a2,hn,hT,λ lw qs H3 s3 nl el ql wd=>?_⟩
   have a4:=(sm J).trans s3
   obtain⟨a0,ab⟩:=le i hi
   have tw:=Z1m
   have bl:=(tw.pt (a1.pt lo.c.len2 hT)).2
   have en:=tw.en
   generalize hA:cO ls i=a at a0 ab
   generalize hB:cO bs i=b at ab bl
   have d1:=iB lo (a:=cO ls) (b:=cO bs) (m:=i)
   refine iH rfl rfl (a4.seq ha) (by rw[ll];exact hi) _ ⟨_,_,rfl,rfl,iH rfl rfl (a4.seq hb) (by rw[a1.1.1];exact hi) _ ⟨_,_,rfl,rfl,_,_,rfl,by rw[hA,hB];lia,?_⟩⟩
   rw[hA,hB]
   refine fE (lo:=a+1) (n:=(b+1-(a+1)).toNat) (λ m σ H'=>(∃ xs,H' acc=some ZQ/\NmL H' xs (due A.ths Z5o ZJh i++fl A.ths i a b (a.toNat+m))/\But ZIo H3 H')/\∃ o6 W,σ=[ZE,ZBG,Z4Q,Z5W,Z6d,ZK2,o6,W]) ⟨⟨xs,ZDo,?_,λ _ _ _ e=>e⟩,_,_,rfl⟩ ?_ ?_
   ·rw[Kb,jZ (n:=0) (m:=a.toNat) Z8g (λ p _ h1 h2 _=>Z1)]
    show NmL H3 xs (_++[])
    rw[Gx]
    exact Z.same s3
   ·rintro m σ H4 hm ⟨⟨xs,e4,Y,O⟩,o6,W,rfl⟩
    rw[show a+1+(m:Int)=((a.toNat+m:Nat):Int)+1 by lia]
    have hp:a.toNat+m<T0.evs.length:=Z1
    have rg:a<((a.toNat+m:Nat):Int)+1/\((a.toNat+m:Nat):Int)+1<=b:=Z1
    rw[show a.toNat+(m+1)=a.toNat+m+1 by lia,t7,FX rg]
    generalize a.toNat+m=p at hp Y
    obtain⟨q,hq⟩:∃ q,qs[p]? = some q:=⟨_,FJ (by rw[ql];exact hp)⟩
    have hE:=FJ hp
    obtain⟨nq,eq⟩:=ZK0
    rw[ZGI]
    have sl:=lo.xj (j:=i) (p:=p)
    rw[ZGI] at sl
    generalize (T0.evs[p]'hp).sa=sa at eq sl
    have a3:q∉[acc]:=by rw[FL];exact λ z=>by rw[z,e2] at nq;cases nq
    have a7:lw∉[acc]:=by rw[FL];exact λ z=>by rw[z,e2] at nl;cases nl
    have d2:=qo lo (m:=i) (x:=a) (y:=b) p
    refine⟨_,rfl,_,rfl,_,_,rfl,rfl,lw,_,_,Z2P,rfl,rfl,SqL.of (O _ _ a7 el),by rw[Int.add_sub_cancel];exact dW (by rw[FP,hq];rfl),q,rfl,⟨_,SqL.of (O _ _ a3 eq)⟩,gz (xs:=iV sa) (λ r σ H'=>(∃ xs,H' acc=some ZQ/\NmL H' xs (due A.ths Z5o ZJh i++(fl A.ths i a b p++(sa.take r).map (tri i p)))/\But ZIo H3 H')/\∃ W,σ=[ZE,ZBG,Z4Q,Z5W,Z6d,ZK2,some (.int ((p:Int)+1)),W]) ⟨⟨xs,e4,by rw[List.take_zero,Jh,Gx];exact Y,O⟩,_,rfl⟩ ?_ ?_ ?_⟩
    ·rintro r σ H5 _ ⟨⟨_,_,_,U⟩,_⟩
     exact SqL.of (U _ _ a3 eq)
    ·rintro r v σ H5 hv ⟨⟨xs,e5,F,U⟩,W,rfl⟩
     obtain⟨y,rfl,hy⟩:=iO hv
     have l5:=F.len
     rw[FQ,FQ,FO,Gu] at l5
     refine⟨_,rfl,.inl ⟨rfl,_,SqL.of e5⟩,_,rfl,_,rfl,_,rfl,by show 3<=sizeLine;decide,λ c hc=>⟨acc,xs,ZEL,rfl,rfl,(ZAA) _ _ e5,GI (show _<=10000 by lia) Z4,⟨_,cy,?_,λ x o n e=>?_⟩,_,rfl⟩⟩
     ·rw[GQ,hy,F0,<- Hu,<- Hu]
      rw[<- Hu] at F
      exact F.put (n:=tri i p y) e5 hc
     ·rw[cz (by simpa using n)];exact(ZAA) _ _ (U x o n e)
    ·rintro σ H5 ⟨⟨xs,e5,F,U⟩,W,rfl⟩
     rw[eB,Ho] at F
     exact⟨⟨xs,e5,F,U⟩,_,_,rfl⟩
   ·rintro σ H4 ⟨⟨xs,e4,Y,O⟩,o6,W,rfl⟩
    refine⟨⟨xs,e4,?_,λ c o n e=>O c o n (s3 _ _ (J c o n e))⟩,_,_,_,_,rfl⟩
    rw[oR,hA,hB,jZ (n:=a.toNat+(b+1-(a+1)).toNat) (m:=30) Z1 λ p h1 _ _ h2=>Z1]
    exact Y
  ·rintro σ H2 ⟨⟨xs,e2,Z,J⟩,o4,o5,o6,W,rfl⟩
   subst a6
   exact⟨_,rfl,k acc xs H2 (sm J) V e2 Z⟩
noncomputable def tw (ns:Z1L) (k:Int×Int):Zc:=(ns.filter λ x=>decide ((x.1,x.2.1)=k)).map (·.2.2)
theorem kG:tw (a++b) k=tw a k++tw b k:=by
 unfold tw
 rw[Hy,F0]
theorem wm:tw [x] k=if (x.1,x.2.1)=k then [x.2.2] else []:=by
 unfold tw
 rw[Ir]
 by_cases h:(x.1,x.2.1)=k
 ·rw[FX (Gg h),FX h];rfl
 ·rw[FV (by simpa using h),FV h];rfl
theorem zD:(tw a k).length<=a.length:=by
 unfold tw
 rw[FO]
 exact GU _ _
theorem uL (h:∀ x∈a,(x.1,x.2.1)≠k):tw a k=[]:=by
 unfold tw
 rw[IU.mpr λ x F=>by simpa using h x F];rfl
def Tld (A:LoA) (ls:Zc) (ns:Z1L):Prop:=(∀ h p:Nat,h<A.many->(p:Int)<cO ls h->tw ns ((h:Int),(p:Int)+1)=wdA A.ths h p)/\∀ x∈ns,∃ h p:Nat,h<A.many/\(p:Int)<cO ls h/\(x.1,x.2.1)=((h:Int),(p:Int)+1)
theorem eqD (J:Rp K H x d) (O:Rp K H y d) (F:Z8Y) (l:n<=64) (q:Q (.bl (!neg)) H):pW K neg x y H Q:=by
 refine⟨d,d,J,O,F.shaped l,F.shaped l,?_⟩
 rw[F.self]
 cases neg<;>exact q
def zj (K:W.Frag) (t:Adr):Sp:=λ vs H Q _=>∃ G L A n tl xs ns ls,vs=[Zk,.ref tl]/\Lo K t G H L A n/\n<=30/\H tl=some ZQ/\NmL H xs ns/\Tld A ls ns/\(∀ j:Nat,j<A.many->cO ls j<=A.b j)/\ns.length<=100000/\∀ H',cG H H'->Q Z2N H'
theorem yQ (T:ZJ):dk P w K mg base ZM 6 t.f_as t.fd_as ["_law_loom_here","_law_told"] (zj K t):=by
 refine T.F_as.okN jP Z6 ZB
 ·obtain⟨G,L,A,n,tl,xs,ns,ls,rfl,_⟩:=h;rfl
 ·obtain⟨G,L,A,n,tl,xs,ns,ls,rfl,lo,hn,ht,nm,td,lb,few,k⟩:=h
  refine⟨_,(cD (cV (i:=2) jP.nd rfl Z5 fK)
   (cD (dI PassesOwn.never rfl ZKs (eJ (K:=K) rfl (dh ZCQ (dh ZCP (dh (cN (i:=5) jP.nd rfl Z5) eM))))
    (cE (cR (dQ (K:=K) F5 Gj Gi dA (dQ (K:=K) IL Jd PySem.F.type_dict_setdefault (kC Z1H) ZV (cF ZHM (cF Z2g cC))) Z4c))))
   (cD (dI PassesOwn.never rfl (sh ZV) (eJ (K:=K) rfl (dh ZCQ (dh ZCP eM)))
    (cD (cV (i:=6) jP.nd rfl Z5 (cW ZX T.cl_Loom T.me_bg Z8B Z0 T.b_bg .nil cH Z2s))
   (cE (dy (PW.pt (hZ (cZ pq (dB ZFw rfl T.no_len jM Z1r) Z1F Z0Z) (gS (cZ Z2R (cY ZR Z5y (cS mU Z1F cJ) ZA) (fu Z1H ZV ZHM ZA) Z0Z))))
    Z0T
    da))))
   Z0T))),?_⟩
  refine Z16
  refine λ d nd=>?_
  refine(sn ee1 λ rr2 ee2=>?_:Z5E)
  have s1:=cG.new (o:=Z2W) nd
  have ed:=cy (H:=H) (a:=d) (o:=Z2W)
  generalize upd H d (.dT [])=H1 at s1 ed ⊢
  refine⟨_,rfl,tl,rfl,⟨_,SqL.of (s1 _ _ ht)⟩,gz (xs:=xs) (λ i σ H'=>(∃ ev:List ((Int×Int)×Addr),H' d=some (.dT (ev.map λ e=>(Z3l,Z5I)))/\(ev.map (·.1)).Nodup/\(ev.map (·.2)).Nodup/\(∀ e∈ev,H e.2=none/\H' e.2=some (.lst (iV (tw Z7i e.1)))/\∃ x∈ns,(x.1,x.2.1)=e.1)/\(∀ x∈ns.take i,(x.1,x.2.1)∈ev.map (·.1))/\cG H H'/\ev.length<=i)/\∃ o3 o4 o5 o6,σ=[ZE,Z4z,some ZCG,o3,o4,o5,o6]) ⟨⟨[],ed,.nil,.nil,(λ e he=>by cases he),(λ x hx=>by rw[List.take_zero] at hx;cases hx),s1,Nat.le_refl _⟩,_,_,_,_,rfl⟩ ?_ ?_ ?_⟩
  ·rintro i σ H' _ ⟨⟨_,_,_,_,_,_,s',_⟩,_⟩
   exact SqL.of (s' _ _ ht)
  ·rintro i v σ H3 hv ⟨⟨ev,hd,k1,k2,al,ke,s3,le⟩,o3,o4,o5,o6,rfl⟩
   have hi:=(FK.mp hv).1
   rw[nm.len] at hi
   obtain⟨b,rfl,hb⟩:=nm.all v (FT hv)
   have hx:ns[i]? = some (g8 H Zj):=by rw[<- nm.eq,FP,hv];rfl
   generalize g8 H (.ref b)=x at hb hx
   have xin:=FT hx
   have st:∀ k,tw (ns.take (i+1)) k=tw Z7i k++if (x.1,x.2.1)=k then [x.2.2] else []:=λ k=>by rw[GQ,hx,kG];exact congrArg _ wm
   have lt:∀ k,(tw Z7i k).length<=100000:=λ k=>Gd zD (by rw[Gu];omega)
   have mem:∀ {y:Nm3},y∈ns.take (i+1)->y∈ns.take i\/y=x:=λ{y} hy=>by
    rw[GQ,hx] at hy
    exact(FY.mp hy).imp id λ z=>by simpa using z
   refine⟨b,_,rfl,SqT.of ZIM,rfl,_,_,rfl,_,_,rfl,_,_,rfl,rfl,?_⟩
   refine⟨_,rfl,.inr (.inr (.inl ⟨rfl,.inr ⟨_,hd⟩⟩)),_,rfl,_,rfl,by show 2<=sizeLine;decide,λ kb hkb=>⟨by show 0<=sizeLine;decide,λ q hq=>?_⟩⟩
   have s7:cG H3 (upd Z2F q Zr):=Z9I
   have hq3:H3 q=none:=ZF5
   have hk7:upd Z2F q Zr kb=some (.tup ((wk (x.1,x.2.1)).map kV)):=by rw[ZLW,cy];rfl
   have qq:=cy (H:=Z2F) (a:=q) (o:=Zr)
   generalize upd (upd H3 kb (.tup [.int x.1,.int x.2.1])) q (.lst [])=H7 at s7 hk7 qq ⊢
   have qd:q≠d:=λ z=>by rw[z,hd] at hq3;cases hq3
   refine⟨d,kb,_,wk (x.1,x.2.1),Z2P,rfl,rfl,s7 _ _ hd,hk7,GI (show _<=100000 by rw[FO];omega) Z4,λ v hv=>?_,λ hv=>?_⟩
   ·obtain⟨e0,he0,k0,rfl⟩:=pT (λ e:(Int×Int)×Addr=>Z3l) ZFm hv
    have k0:=jF _ _ k0
    have he0:e0∈ev:=he0
    obtain⟨a1,a2,a3⟩:=al e0 he0
    refine⟨.inl ⟨rfl,_,SqL.of (s7 _ _ a2)⟩,_,rfl,e0.2,_,_,rfl,rfl,s7 _ _ a2,GI (show _<=100000 by rw[eB];exact lt _) Z4,⟨ev,?_,k1,k2,λ e he=>?_,λ y hy=>?_,λ c o z=>?_,ZC⟩,_,_,_,_,rfl⟩
    ·rw[cz (λ z=>by rw[<- z,hd] at a2;cases a2)];exact s7 _ _ hd
    ·obtain⟨b1,b2,b3⟩:=al e he
     refine ZJx
     rw[st e.1]
     by_cases z:e=e0
     ·subst z
      rw[cy,FX k0.symm,ip]
     ·rw[cz (λ y=>z (ja k2 he he0 y)),FV (λ y=>z (ja k1 he he0 (y.symm.trans k0.symm))),Gx]
      exact s7 _ _ b2
    ·rcases mem hy with y1|rfl
     ·exact ke y y1
     ·rw[<- k0];exact F4 he0
    ·rw[cz (cB z a1)];exact s7 _ _ ZGD
   ·have nin:(x.1,x.2.1)∉ev.map (·.1):=λ z=>by
     obtain⟨e,he,ee⟩:=ZCy
     rw[<- ee,eS (λ e:(Int×Int)×Addr=>Z3l) ZFm (fH (f:=λ e:(Int×Int)×Addr=>e.1) jF k1) he] at hv
     cases hv
    have t0:tw Z7i (x.1,x.2.1)=[]:=uL λ y hy e=>nin (by rw[<- e];exact ke y hy)
    have q8:upd H7 d (.dT ((ev.map λ e=>(Z3l,Z5I))++[(wk (x.1,x.2.1),V.ref q)])) q=some (Zr):=by rw[cz qd];exact qq
    refine⟨.inl ⟨rfl,_,SqL.of q8⟩,_,rfl,q,_,_,rfl,rfl,q8,Z4,⟨ev++[((x.1,x.2.1),q)],?_,?_,?_,λ e he=>?_,λ y hy=>?_,λ c o z=>?_,by rw[FQ,F6];omega⟩,_,_,_,_,rfl⟩
    ·rw[cz (Ne.symm qd),cy,F0];rfl
    ·rw[F0]
     exact GP.mpr ⟨k1,Ze,λ a ha c hc z=>nin (by have q:c=(x.1,x.2.1):=(by simpa using hc);rw[<- q,<- z];exact ha)⟩
    ·rw[F0]
     refine GP.mpr ⟨k2,Ze,λ a ha c hc z=>?_⟩
     obtain⟨e,he,rfl⟩:=F2.mp ha
     have:c=q:=by simpa using hc
     rw[<- this,<- z,(al e he).2.1] at hq3;cases hq3
    ·rw[st e.1]
     rcases FY.mp he with he|he
     ·obtain⟨b1,b2,b3⟩:=al e he
      refine ZJx
      rw[FV (λ y=>nin (by rw[y];exact ZJI)),Gx,cz (cB b2 hq3),cz (λ z=>by rw[z,hd] at b2;cases b2)]
      exact s7 _ _ b2
     ·rw[FL] at he
      subst he
      refine⟨s3.free hq3,?_,x,xin,rfl⟩
      rw[cy,Z1X,t0];rfl
    ·rw[F0]
     rcases mem hy with y1|rfl
     ·exact Gy _ (ke y y1)
     ·exact Gf _ Z8
    ·rw[cz (cB z (s3.free hq3)),cz (cB z nd)];exact s7 _ _ ZGD
  rintro σ H3 ⟨⟨ev,hd,k1,k2,al,ke,s3,le⟩,o3,o4,o5,o6,rfl⟩
  rw[nm.len,Ho] at al
  refine(sn ee2 λ rr3 ee3=>?_:Z6H)
  refine⟨_,rfl,d,_,rfl,.inl ⟨hd,λ o=>?_⟩⟩
  have b4:But [d] H3 (upd H3 d (.frz o (.dT (ev.map λ e=>(Z3l,Z5I))))):=kj
  have e4:=cy (H:=H3) (a:=d) (o:=.frz o (.dT (ev.map λ e=>(Z3l,Z5I))))
  generalize upd H3 d (.frz o (.dT (ev.map λ e=>(wk e.1,V.ref e.2))))=H4 at b4 e4 ⊢
  have s4:cG H H4:=λ c u e=>b4 c u (by rw[FL];exact cB e nd) ZLE
  refine uq (kvs:=ev.map λ e=>(Z3l,Z5I)) (λ _ σ H'=>cG H4 H'/\∃ o3 o4 o5 o6,σ=[ZE,Z4z,some ZCG,o3,o4,o5,o6]) ⟨Z3F,_,_,_,_,rfl⟩ ?_ ?_ ?_
  ·rintro i σ H' _ ⟨s',_⟩
   exact s' _ _ e4
  ·rintro i b kk v σ H5 hx hb ⟨s5,o3,o4,o5,o6,rfl⟩
   rw[FP] at hx
   obtain⟨⟨key,ad⟩,he,hk⟩:=ZCs
   cases hk
   have he:=FT he
   obtain⟨_,a2,x,hxn,a3⟩:=al _ he
   obtain⟨h,p,hh,pl,a4⟩:=td.2 x hxn
   have ek:key=((h:Int),(p:Int)+1):=a3.symm.trans a4
   subst ek
   have lo5:=lo.same Z7T
   obtain⟨T0,hT⟩:∃ T0,A.ths[h]? = some T0:=⟨_,FJ (by rw[lo.c.len2];exact hh)⟩
   have tw0:=((Z1m).pt (lo.pts h T0 hT)).2
   have:=lb h hh
   have hp:p<T0.evs.length:=ZC
   have hE:=FJ hp
   refine⟨b,_,rfl,Z5J,rfl,_,_,rfl,_,_,rfl,rfl,?_⟩
   refine tm ZL lo5.c.self rfl Zd ⟨G,L,A,n,h,T0,rfl,lo5,hn,hT,λ lw qs H6 s6 nl el ql wd=>?_⟩
   obtain⟨q,hq⟩:∃ q,qs[p]? = some q:=⟨_,FJ (by rw[ql];exact hp)⟩
   obtain⟨_,eq⟩:=ZK0
   refine⟨_,rfl,lw,_,rfl,.inl Z39,_,rfl,_,_,rfl,rfl,_,rfl,eA (GW (by rw[FO,ql];show ¬ (T0.evs.length:Int)<(p:Int)+1;omega)) ?_⟩
   refine⟨_,rfl,_,rfl,_,_,rfl,rfl,lw,_,_,Z2P,rfl,rfl,Z39,by rw[Int.add_sub_cancel];exact dW (by rw[FP,hq];rfl),_,rfl,_,rfl,_,rfl,by show 2<=sizeLine;decide,λ kb hkb=>?_⟩
   have s7:=cG.new (o:=.tup [.int (h:Int),.int ((p:Int)+1)]) hkb
   have ad4:=b4 _ _ (by rw[FL];exact λ z=>by rw[z,hd] at a2;cases a2) a2
   have ad7:=s7 _ _ (s6 _ _ (s5 _ _ ad4))
   rw[td.1 h p hh pl,ZGI] at ad7
   refine⟨d,.ref ad,rfl,.inr ⟨_,wk ((h:Int),(p:Int)+1),kb,.inr ⟨o,s7 _ _ (s6 _ _ ZIK)⟩,rfl,cy,(eS (λ e:(Int×Int)×Addr=>Z3l) ZFm (fH (f:=λ e:(Int×Int)×Addr=>e.1) jF k1) he).symm⟩,eqD (.lst (SqL.of (s7 _ _ eq)) j8) (.lst (SqL.of ad7) j8) (.list (n:=1) oz) Z4 ⟨false,rfl,fG ⟨(s5.trans s6).trans s7,_,_,_,_,rfl⟩⟩⟩
  ·rintro σ H5 ⟨s5,o3,o4,o5,o6,rfl⟩
   subst ee3
   exact k H5 Z7T
section
variable {G G' H H':Hp}{L L':LoL}{A A':LoA}{k:KpL}{ls:List Int}{ns:List Nm3}
theorem Kp.keep (F:Z6t) (h:∀ b o,b∈[k.kp,k.td,k.en]->H b=some o->H' b=some o) (tk:∀ b us,H b=some Z40->H' b=some Z40):ZE9:=
 let ⟨xs,s,n⟩:=F.td
 ⟨h _ _ Z8 F.self,F.nk,⟨xs,⟨h _ _ Ze s.1,s.2⟩,n.keep tk⟩,⟨h _ _ Z8F F.en.1,F.en.2⟩,F.ne⟩
theorem Kp.same (F:Z6t) (s:Z1t):ZE9:=F.keep Z8p λ b J e=>Z6G
end
theorem oM:∀ {J:List Addr}{F:List (List Int)},J.length=F.length->(∀ (i:Nat) q ps,J[i]? = some q->F[i]? = some ps->H q=some ZBn)->eF K H (J.map V.ref) (F.map λ ps=>Z3T)
 | [],[],_,_=>.nil
 | q::J,ps::F,l,h=>.cons (.lst (SqL.of (h 0 q ps rfl rfl)) j8) (oM (by simpa using l) λ i q ps a b=>h (i+1) q ps (by simpa using a) (by simpa using b))
 | [],_::_,l,_=>by simp at l
 | _::_,[],l,_=>by simp at l
def PsO (A:LoA) (H:Hp) (qs:Zq) (pss:List Zc):Prop:=qs.length=A.many/\pss.length=A.many/\(∀ (j:Nat) q ps,qs[j]? = some q->pss[j]? = some ps->H q=some ZBn)/\∀ (i:Nat) T ps,A.ths[i]? = some T->pss[i]? = some ps->x6 T ps
theorem wz:(σ++[ov]).set σ.length v=σ++[v]:=by
 rw[Z9k,Hs];rfl
theorem vR:(σ++[v])[σ.length]? = some v:=by
 rw[Gh Z9,Hs];rfl
theorem oh (T:ZJ) {i:Nat}{σ:St}{G H1:Hp}{L:LoL}{A:LoA}{n:Nat}{Q:VK}(h13:i=σ.length) (h1:σ[1]? = some ZE) (lo:Lo K t G H1 L A n) (hn:n<=30)
  (k:∀ (l:Addr) (qs:List Addr) (pss:List (List Int)) (H':Hp),cG H1 H'->H1 l=none->H' l=some Z8y->(∀ q∈qs,H1 q=none)->PsO A H' qs pss->Q Zg H') :
  je (Itr 0 A.many) 1 (eh i) gy (lO t.c_Loom "points" (yj K t) [] ER0 ZAj (gg (dZ i) lD)) σ H1 Q:=by
 subst h13
 have m2:=lo.m2
 have l1:1<σ.length:=ZEi
 refine eO (n:=A.many) Z1 λ acc hacc=>⟨λ i σ2 ys H2=>(∃ (qs:List Addr) (pss:List (List Int)),ys=qs.map V.ref/\qs.length=i/\pss.length=i/\(∀ (j:Nat) q ps,qs[j]? = some q->pss[j]? = some ps->q≠acc/\H2 q=some ZBn)/\(∀ q∈qs,H1 q=none)/\(∀ (i:Nat) T ps,A.ths[i]? = some T->pss[i]? = some ps->x6 T ps)/\H2 acc=some Zb/\cG H1 H2)/\∃ ov,σ2=σ++[ov],⟨⟨[],[],rfl,rfl,rfl,(λ j q ps e=>by simp at e),(λ q hq=>by cases hq),(λ i T ps _ e=>by simp at e),cy,cG.new hacc⟩,_,rfl⟩,?_,?_,?_⟩
 ·rintro i σ2 ys H2 hi ⟨⟨qs,pss,rfl,lq,_⟩,_⟩
  rw[FO];lia
 ·rintro i σ2 ys H2 hi ⟨⟨qs,pss,rfl,lq,lp,at2,fq,ok,e2,s2⟩,ov,rfl⟩
  have g1:(σ++[some (V.int (0+(i:Int)))])[1]? = some (ZE):=by rw[Gw l1];exact h1
  dsimp only[eh,gy]
  rw[wz]
  obtain⟨T0,hT⟩:∃ T0,A.ths[i]? = some T0:=⟨_,FJ (by rw[lo.c.len2];exact hi)⟩
  have lo2:=Z6f
  refine fC ⟨_,g1,L.p,L.dx,_,rfl,lo2.c.self,rfl,_,vR,G,L,A,n,i,T0,by rw[JE];rfl,lo2,hn,hT,λ q ps H3 s3 nq eq3 po=>?_⟩
  have nqa:q≠acc:=λ z=>by rw[z,e2] at nq;cases nq
  refine⟨ZDo,Nx.mk hi ⟨⟨qs++[q],pss++[ps],by rw[F0];rfl,by rw[FQ,lq];rfl,by rw[FQ,lp];rfl,λ j c ys h1 h2=>?_,λ c hc=>?_,λ j T ys h1 h2=>?_,cy,λ c u e=>?_⟩,_,rfl⟩⟩
  ·rcases eQ h1 with h1|⟨e,rfl⟩
   ·rw[Gw (by have:=ZEi;lia)] at h2
    obtain⟨a1,a2⟩:=at2 j c ys h1 h2
    exact⟨a1,by rw[cz a1];exact s3 _ _ a2⟩
   ·rcases eQ h2 with h2|⟨_,rfl⟩
    ·have:=Z6b;lia
    ·exact⟨nqa,by rw[cz nqa];exact eq3⟩
  ·rcases FY.mp hc with hc|hc
   ·exact fq c hc
   ·rw[FL] at hc
    rw[hc];exact s2.free nq
  ·rcases eQ h2 with h2|⟨e,rfl⟩
   ·exact ok j T ys h1 h2
   ·rw[e,lp,hT] at h1;cases h1
    exact po
  ·rw[ZBR];exact s3 _ _ Z8q
 ·rintro σ2 ys H2 ⟨⟨qs,pss,rfl,lq,lp,at2,fq,ok,e2,s2⟩,ov,rfl⟩
  exact k acc qs pss H2 s2 hacc e2 fq ⟨lq,lp,λ j q ps a b=>(at2 j q ps a b).2,ok⟩
theorem nP:∀ {a b:List Int},a.Pairwise (· < ·)->b.Pairwise (· < ·)->(∀ z,z∈a↔z∈b)->a=b
 | [],[],_,_,_=>rfl
 | [],y::_,_,_,h=>absurd ((h y).mpr FZ) Z8
 | x::_,[],_,_,h=>absurd ((h x).mp FZ) Z8
 | x::a,y::b,pa,pb,h=>by
  have F:=Ie.mp pa
  have J:=Ie.mp pb
  have e:x=y:=by
   rcases FR.mp ((h x).mp FZ) with q|q
   ·exact q
   ·rcases FR.mp ((h y).mpr FZ) with r|r
    ·exact r.symm
    ·have:=J.1 x q
     have:=F.1 y r
     lia
  subst e
  rw[nP F.2 J.2 λ z=>?_]
  constructor
  ·intro O
   rcases FR.mp ((h z).mp (FW _ O)) with q|q
   ·have:=F.1 z O;lia
   ·exact q
  ·intro O
   rcases FR.mp ((h z).mpr (FW _ O)) with q|q
   ·have:=J.1 z O;lia
   ·exact q
theorem PsO.uniq (O:A.ths.length=A.many) (a:PsO A H p ps) (b:PsO A H' q qs):ps=qs:=by
 obtain⟨_,F,_,h1⟩:=a
 obtain⟨_,J,_,h2⟩:=b
 refine Z3U
 by_cases hi:i<A.many
 ·have a:=FJ (l:=ps) (i:=i) Z1
  have b:=FJ (l:=qs) (i:=i) Z1
  have c:=ZCx
  have x:=h1 i _ _ c a
  have y:=h2 i _ _ c b
  rw[a,b,nP x.1 y.1 λ z=>by rw[x.2,y.2]]
 ·rw[ZLx,ZLx]
theorem PsO.rp (a:PsO A H qs ps) (e:H l=some Z8y):Rp K H Zg ZAx:=.lst ZCl (oM (a.1.trans a.2.1.symm) a.2.2.1)
theorem xD {ps:List (Zc)}:okD 4 ZAx:=.list (n:=3) λ d F=>by
 obtain⟨ps,_,rfl⟩:=F2.mp F
 exact .list (n:=2) oz
theorem xl {ns:Z1L}:okD 3 (.list (ns.map λ n=>PyData.tuple Zp)):=.list (n:=2) λ d F=>by
 obtain⟨n,_,rfl⟩:=F2.mp F
 refine .tuple (n:=1) λ d F=>?_
 simp only[FR,FU,Ga] at F
 rcases F with rfl|rfl|rfl<;>exact .int
theorem eqN {H:Hp}{F:Bool}{a b:Addr}{xs ys:Z04}{ns:Z1L}{Q:VK}(J:H a=some ZQ) (U:NmL H xs ns) (O:H b=some Zb) (W:NmL H ys ns) (q:Q (.bl (!F)) H):pW K F Z_ Zj H Q:=
 eqD (.lst (SqL.of J) U.rp) (.lst ZGT W.rp) xl Z4 q
theorem rD:∀ {m:Nat},due ths a a m=[]
 | 0=>rfl
 | m+1=>by
  rw[oR,rD,jZ (n:=0) Z8g λ p _ _ h1 h2=>Z1]
  rfl
def zi (K:W.Frag) (t:Adr):Sp:=λ vs H Q _=>∃ G L A n k ls ns la tl xs,vs=[.ref k.kp,Zk,.ref la,.ref tl]/\Lo K t G H L A n/\n<=30/\Kp t G H L A k ls ns/\Sid G H L A la ZJd/\Sid G H L A tl xs/\NmL H xs ns/\[k.td,k.en,la,tl].Nodup/\ls.length=A.many/\(∀ j:Nat,j<A.many->0<=cO ls j/\cO ls j<=A.b j)/\ns.length<=90000 /\
 ∀ ln xs' H',Bse A ln->But [k.td,k.en,la,tl] H H'->Lo K t G H' L { A with b:=ZIh} n->Kp t G H' L A k ln (ns++due A.ths Z5o Z4b A.many)->Sid G H' L A la Z5m->Sid G H' L A tl xs'->NmL H' xs' (ns++due A.ths Z5o Z4b A.many)->Q Z2N H'
theorem yA (T:ZJ):dk P w K mg base ZM 10 t.f_cw t.fd_cw ["_law_keeper","_law_loom_here","_law_last","_law_told"] (zi K t):=by
 refine T.F_cw.okN jh Z6 (λ cp A outer s H vs Q E hr h=>?_)
 ·obtain⟨G,L,A,n,k,ls,ns,la,tl,xs,rfl,_⟩:=h;rfl
 ·obtain⟨G,L,A,n,kk,ls,ns,la,tl,xs,rfl,lo,hn,kp,a1,a3,bz,nd,ll,lb,cq,k⟩:=h
  refine⟨_,(cD (cV (i:=4) jh.nd rfl Z5 (cU (vf (K:=K) T) Z0 rfl T.mg_dv T.kp_dv T.b_dv .nil cH Zf))
   (cD (cV (i:=5) jh.nd rfl Z5 (cU (CK (K:=K) T) Z0 rfl T.mg_dr T.kp_dr T.b_dr .nil cH (cF ZI (cF Z1F Z0x))))
   (cD (cV (i:=6) jh.nd rfl Z5 Z3y)
   (cD (fF ["_law_keeper","_law_loom_here","_law_last","_law_told","_law_base","_law_due_here","_law_rows","_law_points","~_law_hand","_law_words","_law_found","_law_hand"] 1 (i:=7) rfl jh.nd rfl Z5 Zw (λ _ _ _ _ _=>⟨(cN (i:=11) (show List.Nodup (["_law_keeper","_law_loom_here","_law_last","_law_told","_law_base","_law_due_here","_law_rows","_law_points","~_law_hand","_law_words","_law_found","_law_hand"]:ZT) from by decide +kernel) rfl Z5),dG,Z2K⟩))
   (cD (dI PassesOwn.never rfl Zw ZCO
    (cE (dI PassesOwn.never rfl (dD (K:=K) (cW ZI T.cl_Loom T.me_bg Z8B Z0 T.b_bg .nil cH (cF ZCL cC))) (cN (i:=9) jh.nd rfl Z5)
    (cE (cR (dQ (K:=K) F5 Gj Gi dA (pv 9) ZCS))))))
   (cD (cV (i:=10) jh.nd rfl Z5 Z3Y)
   (cD (dy (PW.pt (hZ (eE (dN (dB ZAh rfl T.no_isinstance fQ (cF ZJa (cF (j7 (v:=.ty "list") rfl T.no_list jG rfl) cC))))) (gS (cZ Z2R ZJa Z1O Z0Z))))
    Z0T
    da)
   (cD (dI PassesOwn.never rfl Zw ZCO
    (cE (vk (dB (mf rfl) rfl T.no_max wC (cF ZHN (cF (cY ZR Z1F ZCL ZA) cC))) (vD ZV ZCL set_list))))
   (cD (cR (dQ (K:=K) F5 ID IC iy Z1E Z4c))
   (cD (cR (dQ (K:=K) F5 Gj Gi dA ZJa (cF (eC (cF cJ (cF cJ ZCS))) cC)))
   (cD (cR (mE (K:=K) F5 PySem.F.slot_list_clear PySem.F.type_list_clear vp Z3Z))
   (cD (dy (PW.pt (hZ (cZ Z2R Z3y Z5y Z0Z) (gS (cZ Z2R (dH ["_law_keeper","_law_loom_here","_law_last","_law_told","_law_base","_law_due_here","_law_rows","_law_points","~_law_hand","_law_words","_law_found","_law_hand"] 1 rfl Zw (λ _ _ _ _ _=>⟨(cN (i:=11) (show List.Nodup (["_law_keeper","_law_loom_here","_law_last","_law_told","_law_base","_law_due_here","_law_rows","_law_points","~_law_hand","_law_words","_law_found","_law_hand"]:ZT) from by decide +kernel) rfl Z5),dG,Z2K⟩)) (pv 7) Z0Z))))
    Z0T
    da)
   (cE (cQ (kT (eX Z6z Z3Z Z1E Z0Z) (jx (eX Z6z Z3Y Z2g Z0Z))))))))))))))))),?_⟩
  refine sq λ c8 bL=>?_
  have m2:=lo.m2
  refine tcl Zd ⟨G,L,A,n,rfl,lo,hn,λ au bs H1 s1 b4 bl W=>?_⟩
  refine(sn bL λ c9 bM=>?_:c8 _ _ _)
  refine tcl (.cons ZL Z5s) ⟨G,L,A,n,au,la,bs,ls,rfl,Z2m,hn,SqL.of bl,SqL.of (s1 _ _ a1.1),W,ll,λ j hj=>⟨(lb j hj).1,HU (lb j hj).2 (lo.rise W hj)⟩,λ ld xd H2 s2 aw bU bx=>?_⟩
  refine(sn bM λ ca bN=>?_:c9 _ _ _)
  have b6:=Z4J
  have b2:=lo.same b6
  obtain⟨lg,aX,_,aK⟩:=b2.lg
  refine tm ZL b2.c.self rfl .nil ⟨G,L,A,n,lg,rfl,b2,hn,aX,λ lr H3 s3 c4 bW=>?_⟩
  refine(sn bN λ cb bO=>?_:ca _ _ _)
  have aL:=b6.trans s3
  have bp:=lo.same aL
  refine⟨_,rfl,L.p,_,L.dx,_,_,rfl,bp.c.self,T.cl_Loom,T.na_dk,rfl,(A.many:Int),rfl,ZC,ZC,oh T rfl rfl bp hn λ lp qs c6 H4 s4 c3 bV bY az=>?_⟩
  refine(sn bO λ cc bP=>?_:cb _ _ _)
  have b7:=aL.trans s4
  refine⟨_,rfl,L.p,_,L.dx,_,_,rfl,(lo.same b7).c.self,T.cl_Loom,T.na_dk,rfl,(A.many:Int),rfl,ZC,ZC,fE (lo:=0) (n:=A.many) (λ i σ H'=>cG H4 H'/\∃ o8 o9,σ=[Z8W,ZE,Z4Q,Z4z,ZBH,ZBF,ZBD,ZBE,o8,o9,none]) ZGm ?_ ?_⟩
  ·rintro i σ H5 hi ⟨s5,o8,o9,rfl⟩
   rw[JE]
   have bq:=lo.same (b7.trans s5)
   obtain⟨T0,hT⟩:∃ T0,A.ths[i]? = some T0:=⟨_,FJ (by rw[lo.c.len2];exact hi)⟩
   have en:=(Z1m).en
   refine tm ZL bq.c.self rfl Zd ⟨G,L,A,n,i,T0,rfl,bq,hn,hT,λ lw F H6 s6 nl el ul wd=>⟨lw,rfl,⟨_,Z39⟩,gz (xs:=ZFf) (λ r σ H'=>((∀ q∈F,H5 q=none/\∃ sa:List Int,H' q=some (.lst (iV sa))/\sa.length<=10+r)/\H' lw=some (.lst ZFf)/\cG H5 H')/\∃ o9,σ=[Z8W,ZE,Z4Q,Z4z,ZBH,ZBF,ZBD,ZBE,Z6d,o9,none]) ⟨⟨λ q hq=>?_,el,s6⟩,_,rfl⟩ ?_ ?_ ?_⟩⟩
   ·obtain⟨j,hj⟩:=HA hq
    have hE:=FJ (l:=T0.evs) (i:=j) (by rw[<- ul];exact(FK.mp hj).1)
    obtain⟨w1,w2⟩:=wd j q _ hj hE
    refine⟨w1,_,w2,?_⟩
    rw[<- kz hT hE];exact lo.xj
   ·rintro r σ H' _ ⟨⟨_,e,_⟩,_⟩
    exact ZCl
   ·rintro r x σ H7 hx ⟨⟨al,e7,s7⟩,o9,rfl⟩
    have hr:=Z0s
    rw[FO,ul] at hr
    obtain⟨q,hq,rfl⟩:=F2.mp ZJo
    obtain⟨nq,sa,eq,lq⟩:=al q hq
    have c5:lw≠q:=λ z=>by
     rw[z,eq] at e7
     cases F with
     | nil=>cases hq
     | cons u F=>
      cases sa with
      | nil=>simp[iV] at e7
      | cons a sa=>simp[iV] at e7
    refine⟨_,rfl,.inl ⟨rfl,_,SqL.of eq⟩,q,_,_,rfl,rfl,eq,GI (show _<=1000 by rw[eB];omega) Z4,⟨λ c hc=>?_,by rw[cz c5];exact e7,λ c o z=>by rw[cz (cB z nq)];exact s7 _ _ z⟩,_,rfl⟩
    obtain⟨nc,sc,ec,lc⟩:=al c hc
    refine⟨nc,?_⟩
    by_cases z:c=q
    ·rw[z,cy,<- ip]
     exact⟨_,rfl,by rw[FQ,F6];omega⟩
    ·rw[cz z]
     exact⟨sc,ec,ZC⟩
   ·rintro σ H7 ⟨⟨_,_,s7⟩,o9,rfl⟩
    exact⟨s5.trans s7,_,_,rfl⟩
  rintro σ H5 ⟨aC,o8,o9,rfl⟩
  refine(sn bP λ ce bQ=>?_:cc _ _ _)
  have O:=b7.trans aC
  have a9:=kp.same O
  refine tm ZL a9.self rfl .nil ⟨G,L,A,n,kk,ls,ns,rfl,lo.same O,hn,a9,ll,λ j hj=>(lb j hj).2,ZC,λ lf xf ln H8 be bh bu am b5 b3 aI=>?_⟩
  obtain rfl:=be.uniq W
  have an:=(Z7U).trans aC
  have n4:∀ {b:Addr} {o:HO},H5 b=some o->b≠kk.td->b≠kk.en->H8 b=some o:=λ e h1 h2=>bh _ _ (by simp only[FR,FU,Ga,Hz];exact⟨h1,h2⟩) e
  obtain⟨tx,ts,tn⟩:=a9.td
  have b9:∀ c F,H5 c=some Z3j->H8 c=some Z3j:=λ c F e=>n4 e (λ z=>by rw[z,ts.1] at e;cases e) (λ z=>by rw[z,a9.en.1] at e;cases e)
  simp only[GX,FR,FU,Ga,Hz,Jp,IT,and_true] at nd
  obtain⟨⟨d1,d2,d3⟩,⟨d4,d5⟩,d6⟩:=nd
  have ah:∀ {b:Addr} {o:HO},H b=none->H5 b=some o->H8 b=some o:=λ h e=>n4 e (λ z=>by rw[z] at h;obtain⟨_,q,_⟩:=kp.td;rw[q.1] at h;cases h) (λ z=>by rw[z,kp.en.1] at h;cases h)
  have aP:=an _ _ bU
  have ap:=ah (s1.free aw) aP
  have ax:=(bx.same an).keep b9
  have aO:=ah b4 ((s2.trans an) _ _ bl)
  have ai:Sid G H8 L A la ZJd:=⟨n4 ZEd (Ne.symm d2) (Ne.symm d4),a1.2⟩
  have aj:Sid G H8 L A tl xs:=⟨n4 ZEc (Ne.symm d3) (Ne.symm d5),a3.2⟩
  have aT:=(bz.same O).keep b9
  refine(sn bQ λ cf bR=>?_:ce _ _ _)
  refine⟨_,rfl,_,_,.plain (.lst am),iq _ _,_,rfl,fG ⟨_,rfl,_,rfl,eqN am b5 ap ax Z3k⟩⟩
  refine(sn bR λ cg bS=>?_:cf _ _ _)
  refine⟨_,rfl,L.p,_,L.dx,_,_,rfl,b3.c.self,T.cl_Loom,T.na_dk,rfl,(A.many:Int),rfl,ZC,ZC,fE (lo:=0) (n:=A.many) (λ i σ H'=>(∃ es,es.length=A.many/\(∀ j:Nat,cO es j=if j<i then cO ln j else cO ls j)/\Sid G H' L A la ZFv/\Lo K t G H' L A n/\But [la] H8 H')/\∃ o8 o9,σ=[Z8W,ZE,Z4Q,Z4z,ZBH,ZBF,ZBD,ZBE,o8,o9,some (.ref lf)]) ⟨⟨ls,ll,λ j=>by rw[FV (JH j)],ai,b3,λ _ _ _ e=>e⟩,_,_,rfl⟩ ?_ ?_⟩
  ·rintro i σ H9 hi ⟨⟨es,le,aH,ae,aJ,ao⟩,o8,o9,rfl⟩
   rw[JE]
   have br:au∉[la]:=by rw[FL];exact λ z=>by rw[z,a1.1] at b4;cases b4
   refine iH rfl rfl (SqL.of ae.1) (by rw[le];exact hi) _ (iH rfl rfl (SqL.of (ao _ _ br aO)) (by rw[W.1.1];exact hi) _ ⟨_,_,rfl,_,rfl,_,rfl,la,_,i,i,rfl,rfl,ae.1,rX (by rw[eB,le];exact hi),?_⟩)
   have up:=(lb i hi).2
   have cx:=lo.rise W hi
   have e0:=aH i
   rw[FV Z60] at e0
   rw[show (iV es).set i (.int (if cO ln i>cO es i then cO ln i else cO es i))=iV (es.set i ZEa) by
    rw[show (if cO ln i>cO es i then cO ln i else cO es i)=cO ln i by split<;>omega]
    unfold iV;rw[List.map_set]]
   refine⟨⟨es.set i ZEa,by rw[Hm];exact le,λ j=>?_,⟨cy,ae.2⟩,aJ.put ae kj,λ c o nc e=>?_⟩,_,_,rfl⟩
   ·rw[nZ ZC,aH j]
    by_cases z:j=i
    ·rw[ZJC,ZLy,z]
    ·rw[ZJD]
     by_cases q:j<i
     ·rw[ZKb,ZLy]
     ·rw[ZKd,ZHE]
   ·rw[cz (by simpa using nc)];exact ao c o nc e
  rintro σ H9 ⟨⟨es,le,aH,ae,aJ,ao⟩,cv,cw,rfl⟩
  obtain rfl:es=ln:=oY (by rw[le,W.1.1]) λ j hj=>by rw[aH j,FX (by rw[W.1.1] at hj;exact hj)]
  refine(sn bS λ ch bT=>?_:cg _ _ _)
  have k9:∀ {b:Addr} {o:HO},b≠la->H8 b=some o->H9 b=some o:=λ n e=>ao _ _ (by rw[FL];exact n) e
  have aM:Sid G H9 L A tl xs:=⟨k9 (Ne.symm d6) aj.1,a3.2⟩
  have bZ:ld≠la/\ld≠tl:=⟨(λ z=>by rw[z,s1 _ _ a1.1] at aw;cases aw),(λ z=>by rw[z,s1 _ _ a3.1] at aw;cases aw)⟩
  have a2:∀ {b:Addr} {o:HO},H5 b=some o->b≠lf:=λ e z=>by rw[z,bu] at e;cases e
  have dl:=iB lo (a:=cO ls) (b:=cO es) (m:=A.many)
  refine⟨_,rfl,.inl ⟨rfl,_,SqL.of aM.1⟩,_,rfl,tl,ld,xs,xd,rfl,rfl,aM.1,k9 bZ.1 ap,by rw[bz.len,bx.len];exact Gd (show _<=100000 by omega) Z4,?_⟩
  have av:=aJ.put aM (kj (o:=.lst (xs++xd)))
  have aG:But [tl] H9 (upd H9 tl (.lst (xs++xd))):=kj
  have aF:=cy (H:=H9) (a:=tl) (o:=.lst (xs++xd))
  generalize upd H9 tl (.lst (xs++xd))=ak at av aG aF ⊢
  have b1:∀ {b:Addr} {o:HO},b≠la->b≠tl->H8 b=some o->ak b=some o:=λ n1 n2 e=>aG _ _ (by rw[FL];exact n2) (k9 n1 e)
  refine(sn bT λ bC bi=>?_:ch _ _ _)
  have af:ak lf=some (.lst xf):=b1 (λ z=>a2 ZEd z.symm) (λ z=>a2 ZEc z.symm) am
  refine⟨_,rfl,.inl ⟨rfl,_,SqL.of af⟩,by show 3<=sizeLine;decide,λ c hc=>⟨lf,xf,ZEL,rfl,rfl,(ZAA) _ _ af,GI (show _<=2000 by rw[b5.len];omega) Z4,?_⟩⟩
  have bF:Sid G ak L A lf xf:=⟨af,(Sid.new (lo.same O) bu am).2⟩
  have aq:∀ {b:Addr} {o:HO},b≠lf->ak b=some o->upd (upd ak c ZAT) lf (.lst (xf++[ZEL])) b=some o:=λ n e=>by rw[cz n];exact(ZAA) _ _ e
  have ag:=((av.same (cG.new (o:=ZAT) hc)).put (bF.same ZAA) (kj (o:=.lst (xf++[ZEL])))).based W
  generalize upd (upd ak c (.tup [.int 9,.int 9,.int 9])) lf (.lst (xf++[.ref c]))=J at aq ag ⊢
  have all:∀ {b:Addr} {o:HO},b≠la->b≠tl->b≠lf->H8 b=some o->J b=some o:=λ n1 n2 n3 e=>aq n3 (b1 n1 n2 e)
  have aN:∀ b F,H8 b=some Z3j->J b=some Z3j:=λ b F e=>all (λ z=>by rw[z,ai.1] at e;cases e) (λ z=>by rw[z,aj.1] at e;cases e) (λ z=>by rw[z,am] at e;cases e) e
  have a4:=aI.keep (H':=J) (λ b o hb e=>by
   simp only[FR,FU,Ga] at hb
   rcases hb with rfl|rfl|rfl
   ·exact all (λ z=>by have:=ai.1;rw[<- z,aI.self] at this;cases this) (λ z=>by have:=aj.1;rw[<- z,aI.self] at this;cases this) (a2 a9.self) e
   ·exact all d2 d3 (a2 ts.1) e
   ·exact all d4 d5 (a2 a9.en.1) e) aN
  have b8:Sid G J L A la ZFv:=⟨aq (a2 ZEd) (aG _ _ (by rw[FL];exact d6) ae.1),a1.2⟩
  have aD:Sid G J L A tl (xs++xd):=⟨aq (a2 ZEc) aF,a3.2⟩
  have ay:=(aT.app ax).keep aN
  have bf:But [kk.td,kk.en,la,tl] H5 J:=λ b o nb e=>by
   simp only[FR,FU,Ga,Hz] at nb
   exact all nb.2.2.1 nb.2.2.2 (a2 e) (n4 e nb.1 nb.2.1)
  have a7:∀ {b:Addr} {o:HO},H b=none->H5 b=some o->J b=some o:=λ h e=>all (λ z=>by rw[z,a1.1] at h;cases h) (λ z=>by rw[z,a3.1] at h;cases h) (a2 e) (ah h e)
  have aZ:=a7 (b6.free c4) ((s4.trans aC) _ _ bW)
  have aY:=a7 (aL.free c3) (aC _ _ bV)
  have a8:PsO A J qs c6:=⟨az.1,az.2.1,λ j q ps a b=>a7 (aL.free (bY q (FT a))) (aC _ _ (az.2.2.1 j q ps a b)),az.2.2.2⟩
  have bG:∀ b F,H2 b=some Z3j->J b=some Z3j:=λ b F e=>aN b F (b9 b F (an _ _ e))
  have bn:J L.lg=some (.lst lg):=by
   have ne:∀ {b:Addr} {ys:List V},Sid G H5 L A b ys->L.lg≠b:=λ q z=>q.2.1 (by rw[<- z];exact LoL.gj Z8)
   exact all (ne (a1.same O)) (ne (a3.same O)) (a2 (an _ _ aX)) (n4 (an _ _ aX) (ne ts) (ne a9.en))
  clear am b5 af bF aP ap ax aO ai aj aT aM aF b3 aJ av ae aI all aN aq b1 k9 a7 ah n4 aG ao bh
  refine(sn bi λ bD bj=>?_:bC _ _ _)
  obtain⟨ty,aW,cn⟩:=a4.td
  refine tm ZL a4.self rfl .nil ⟨kk.kp,kk.dx,L.p,kk.td,kk.en,ty,rfl,a4.self,aW.1,λ lh bv=>⟨.inl ⟨rfl,_,Z83⟩,lh,_,rfl,rfl,cy,?_⟩⟩
  have aA:cG J (upd (upd J lh (.lst ty)) lh Zr):=λ b o e=>by rw[cz (cB e bv),cz (cB e bv)];exact e
  generalize upd (upd J lh (.lst ty)) lh (.lst [])=ba at aA ⊢
  refine(sn bj λ cm bk=>?_:bD _ _ _)
  have aR:=ag.same aA
  have aE:∀ b F,H2 b=some Z3j->ba b=some Z3j:=λ b F e=>aA _ _ (bG b F e)
  have c1:∀ x∈lg,oK A.many ba x:=λ x hx=>(aK x hx).keep aE
  refine tm ZL aR.c.self rfl .nil ⟨G,L,_,n,lg,rfl,aR,hn,aA _ _ bn,λ ct bb bE ck aQ=>?_⟩
  rw[lQ aE aK] at aQ
  have ab:=aA.trans bE
  have aV:∀ b F,H2 b=some Z3j->bb b=some Z3j:=λ b F e=>bE _ _ (aE b F e)
  obtain⟨ds,rp,ok⟩:=rC (K:=K) (H:=bb) λ x hx=>(aK x hx).keep aV
  rw[lQ aV aK] at rp
  refine⟨_,rfl,eqD (.lst (SqL.of aQ) rp) (.lst (SqL.of (ab _ _ aZ)) rp) (.list (n:=3) ok) Z4 Z3k⟩
  have aS:=ag.same ab
  refine⟨_,rfl,L.p,_,L.dx,_,_,rfl,aS.c.self,T.cl_Loom,T.na_dk,rfl,(A.many:Int),rfl,ZC,ZC,oh (A:={ A with b:=cO es }) T rfl rfl aS hn λ cs c7 bB bc ci cj bm _ aU=>?_⟩
  have U:=ab.trans ci
  obtain rfl:=PsO.uniq lo.c.len2 (show PsO A bc c7 bB from aU) az
  refine⟨_,rfl,eqD (aU.rp bm) (PsO.rp (A:=A) ⟨a8.1,a8.2.1,λ j q ps a b=>U _ _ (a8.2.2.1 j q ps a b),a8.2.2.2⟩ (U _ _ aY)) xD Z4 Z3k⟩
  subst bk
  have ar:=a4.same U
  obtain⟨tz,bJ,bI⟩:=ar.td
  refine tm ZL ar.self rfl .nil ⟨kk.kp,kk.dx,L.p,kk.td,kk.en,tz,rfl,ar.self,bJ.1,λ c0 bw=>?_⟩
  have aB:=cG.new (o:=.lst tz) bw
  refine⟨_,rfl,eqN cy (bI.same aB) ((ZH4) _ _ aD.1) (ay.same ZH4) ⟨true,rfl,fC ?_⟩⟩
  generalize upd bc c0 (.lst tz)=co at aB
  have ad:=ZH4
  have a5:=a4.same ad
  have b0:∀ j:Nat,j<A.many->cO es j<=cO es j:=λ j _=>Z9U
  refine tm ZL a5.self rfl .nil ⟨G,L,{ A with b:=cO es },n,kk,es,_,rfl,ag.same ad,hn,⟨a5.self,a5.nk,a5.td,a5.en,a5.ne⟩,W.1.1,b0,by rw[FQ];omega,λ lx xx aa bd bK bg cu bX bA bo Y=>⟨Z4,λ cr bt=>?_⟩⟩
  obtain rfl:aa=es:=Bse.uniq (A:=A) bK W
  have e0:due ({ A with b:=cO aa }:LoA).ths (cO aa) (cO aa) ({ A with b:=cO aa }:LoA).many=[]:=rD
  rw[e0] at bA Y
  rw[Gx] at Y
  have Z:=cG.new (o:=Zr) bt
  have a6:∀ {b:Addr} {o:HO},b≠kk.td->b≠kk.en->J b=some o->bd b=some o:=λ n1 n2 e=>bg _ _ (by simp only[FR,FU,Ga,Hz];exact⟨n1,n2⟩) (ad _ _ e)
  have bH:∀ b F,J b=some Z3j->bd b=some Z3j:=λ b F e=>a6 (λ z=>by rw[z,aW.1] at e;cases e) (λ z=>by rw[z,a4.en.1] at e;cases e) e
  refine eqN (Z _ _ bX) (bA.same Z) cy .nil ?_
  refine k aa (xs++xd) _ W (λ b o nb e=>?_) (bo.same Z) (show Kp t G _ L A kk aa _ from ⟨Z _ _ Y.self,Y.nk,let ⟨y,a,c⟩:=Y.td;⟨y,a.same Z,c.same Z⟩,Y.en.same Z,Y.ne⟩) ⟨Z _ _ (a6 (Ne.symm d2) (Ne.symm d4) b8.1),a1.2⟩ ⟨Z _ _ (a6 (Ne.symm d3) (Ne.symm d5) aD.1),a3.2⟩ ((ay.keep bH).same Z)
  have c2:=nb
  simp only[FR,FU,Ga,Hz] at nb
  exact Z _ _ (a6 nb.1 nb.2.1 (bf b o c2 (O _ _ e)))
theorem Lo.more (lo:Za):Lo K t G H L A (n+1):=
 let ⟨xs,h,J,r⟩:=lo.lg
 ⟨lo.c,lo.wf,lo.lk,⟨xs,h,Z1,r⟩,λ T F=>(lo.tw T F).more,by have:=lo.bn;exact⟨Z1,this.2⟩,lo.m2,lo.fr,lo.pts,lo.snd⟩
theorem pS:∀ {F:List Int},tw (F.map ZAf) k=if ((h:Int),(n:Int)+1)=k then F else []
 | []=>by
  split<;>rfl
 | x::F=>by
  rw[Gq,show tri h n x::F.map ZAf=[tri h n x]++F.map ZAf from rfl,kG,wm,pS]
  show (if ((h:Int),(n:Int)+1)=k then [x] else [])++_=_
  split<;>rfl
theorem yy {ths:Z3d}{h h' p:Nat}{a b:Int}:∀ {n:Nat},tw (fl ths h' a b n) ((h:Int),(p:Int)+1)=if h=h'/\p<n/\a<(p:Int)+1/\(p:Int)+1<=b then wdA ths h p else []
 | 0=>by
  rw[ZHE];rfl
 | n+1=>by
  rw[t7,kG,yy]
  by_cases c:h=h'/\p=n
  ·obtain⟨rfl,rfl⟩:=c
   rw[ZHE,Jg]
   by_cases d:a<(p:Int)+1/\(p:Int)+1<=b
   ·rw[FX d,FX ⟨rfl,G8 p,d⟩,pS,Z1X]
   ·rw[FV d,FV (λ z=>d z.2.2)];rfl
  ·have e:tw (if a<(n:Int)+1/\(n:Int)+1<=b then (wdA ths h' n).map (tri h' n) else []) ((h:Int),(p:Int)+1)=[]:=by
    split
    ·rw[pS,FV λ z=>?_]
     have F:=congrArg Prod.fst z
     have J:=congrArg Prod.snd z
     dsimp only at F J
     exact c ZFG
    ·rfl
   rw[e,Gx]
   by_cases d:h=h'/\p<n/\a<(p:Int)+1/\(p:Int)+1<=b
   ·rw[FX d,FX ⟨d.1,ZC,d.2.2⟩]
   ·rw[FV d,FV λ z=>d ⟨z.1,by have:=z.2.1;have:p≠n:=λ q=>c ⟨z.1,q⟩;omega,z.2.2⟩]
theorem uF {ths:Z3d}{h p:Nat}{a b:Int->Int}:∀ {m:Nat},tw (due ths a b m) ((h:Int),(p:Int)+1)=if h<m/\p<30/\a h<(p:Int)+1/\(p:Int)+1<=b h then wdA ths h p else []
 | 0=>by
  rw[ZHE];rfl
 | m+1=>by
  rw[oR,kG,uF,yy]
  by_cases c:h=m
  ·subst c
   rw[ZHE,Jg]
   by_cases d:p<30/\a h<(p:Int)+1/\(p:Int)+1<=b h
   ·rw[FX ⟨rfl,d⟩,FX ⟨ZC,d⟩]
   ·rw[ZKc,ZKc]
  ·rw[FV (c:=h=m/\_) λ z=>c z.1,Gx]
   by_cases d:h<m/\p<30/\a h<(p:Int)+1/\(p:Int)+1<=b h
   ·rw[FX d,FX ⟨ZC,d.2⟩]
   ·rw[FV d,FV λ z=>d ⟨ZC,z.2⟩]
theorem vF:∀ {n:Nat},x∈fl ths h a b n->∃ p:Nat,(p:Int)<b/\(x.1,x.2.1)=((h:Int),(p:Int)+1)
 | 0,F=>by cases F
 | n+1,F=>by
  rw[t7] at F
  rcases FY.mp F with F|F
  ·exact vF F
  ·split at F
   ·next c=>
    obtain⟨y,_,rfl⟩:=F2.mp F
    exact⟨n,Z1,rfl⟩
   ·cases F
theorem rE:∀ {m:Nat},x∈due ths a b m->∃ h p:Nat,h<m/\(p:Int)<b h/\(x.1,x.2.1)=((h:Int),(p:Int)+1)
 | 0,F=>by cases F
 | m+1,F=>by
  rw[oR] at F
  rcases FY.mp F with F|F
  ·obtain⟨h,p,l,z⟩:=rE F
   exact⟨h,p,Z1,z⟩
  ·obtain⟨p,z⟩:=vF F
   exact⟨m,p,G8 m,z⟩
theorem Tld.tell {A:LoA}{ls ln:Zc}{ns:Z1L}(td:Tld A ls ns) (O:∀ h:Nat,h<A.many->cO ls h<=cO ln h/\cO ln h<=30):Tld A ln (ns++due A.ths Z5o Z4b A.many):=by
 refine⟨λ h p J Z=>?_,λ x F=>?_⟩
 ·have W:=O h J
  rw[kG,uF]
  by_cases c:(p:Int)<cO ls h
  ·rw[td.1 h p J c,ZHE,Gx]
  ·rw[ZLy,uL λ x F e=>?_,Jg]
   obtain⟨h',Y,_,z,y⟩:=td.2 x F
   rw[e] at y
   have U:=congrArg Prod.fst y
   have V:=congrArg Prod.snd y
   dsimp only at U V
   have:h=h':=ZC
   subst this
   omega
 ·rcases FY.mp F with F|F
  ·obtain⟨h,p,J,z,y⟩:=td.2 x F
   exact⟨h,p,J,Jl z (O h J).1,y⟩
  ·exact rE F
theorem Tld.next (td:Tld A ls ns) (J:A'.many=A.many) (U:∀ h p:Nat,h<A.many->(p:Int)<cO ls h->wdA A'.ths h p=wdA A.ths h p):Tld A' ls ns:=
 ⟨λ h p F O=>by rw[J] at F;rw[U h p F O];exact td.1 h p F O,λ x V=>let ⟨h,p,F,z⟩:=td.2 x V;⟨h,p,by rw[J];exact F,z⟩⟩
noncomputable def lab (f:Addr->Nat) (q:Addr) (l:Nat):Addr->Nat:=λ b=>if b=q then l else f b
theorem lj:lab f q l q=l:=Z1X
theorem kO (h:b≠q):lab f q l b=f b:=ZLz
def Trk (B H:Hp) (f:Addr->Nat) (S:List (Addr×List V×Nat)):Prop:=(∀ x∈S,B x.1=none/\H x.1=some (.lst x.2.1)/\f x.1=x.2.2)/\∀ b,B b≠none->f b=15
section
variable {B H H':Hp}{f:Addr->Nat}{S:List (Addr×List V×Nat)}{q:Addr}{ys:List V}
theorem Trk.keep (h:ZAD) (s:ZEJ) (n:∀ x∈S,x.1≠q):Trk B H' f S:=⟨λ x F=>let ⟨a,b,c⟩:=h.1 x F;⟨a,s _ _ (by rw[FL];exact n x F) b,c⟩,h.2⟩
theorem Trk.add (l:Nat) (h:ZAD) (nb:B q=none) (n:∀ x∈S,x.1≠q) (e:H q=some Zb):Trk B H (lab f q l) ((q,ys,l)::S):=by
 refine⟨λ x hx=>?_,λ b hb=>?_⟩
 ·rcases FR.mp hx with rfl|hx
  ·exact⟨nb,e,lj⟩
  ·obtain⟨a,b,c⟩:=h.1 x hx
   exact⟨a,b,by rw[kO (n x hx)];exact c⟩
 ·rw[kO (λ z=>hb (by rw[z];exact nb))];exact h.2 b hb
theorem Trk.ne (h:ZAD) (F:H q=none):∀ x∈S,x.1≠q:=λ x J z=>by rw[<- z,(h.1 x J).2.1] at F;cases F
theorem Trk.new (l) (h:ZAD) (J:cG B H) (F:H q=none) (s:Z1t) (e:H' q=some Zb):Trk B H' (lab f q l) ((q,ys,l)::S):=
 Trk.add l (h.keep (q:=q) (But.of s) (h.ne F)) (J.free F) (h.ne F) e
end
def Scr (K:W.Frag) (H:Hp) (L:LoL) (A:LoA) (f:Addr->Nat) (a:Addr) (ns:Zc):Prop:=(∀ H',ZKX)\/∃ o,H a=some o/\a∉L.own A/\f a=15/\∀ H',H' a=some o->SqL K H' a Z1Z
theorem Scr.sq (h:Scr K H L A f a ns):SqL K H a Z1Z:=h.elim (λ z=>z H) λ⟨_,e,_,_,z⟩=>z H e
structure SlA where
 (la tl:Addr)
 ls:Zc
 ns:Z1L
structure SlO (G H:Hp) (L:LoL) (A:LoA) (f:Addr->Nat) (c i:Nat) (s:SlA):Prop where
 la:Sid G H L A s.la (iV s.ls)
 tl:∃ xs,Sid G H L A s.tl xs/\NmL H xs s.ns
 td:Tld A s.ls s.ns
 ll:s.ls.length=A.many
 lb:∀ j:Nat,j<A.many->0<=cO s.ls j/\cO s.ls j<=A.b j
 few:s.ns.length<=1500*c
 f1:f s.la=4*i
 f2:f s.tl=4*i+1
structure gi (K:W.Frag) (t:Adr) (p a kl lal tll:Addr) (sc:List Int) (c:Nat) (G H:Hp) (L:LoL) (A:LoA) (n:Nat) (ks:List KpL) (sl:List SlA) (f:Addr->Nat):Prop where
 lo:Za
 pe:L.p=p
 scr:Scr K H L A f a sc
 kl:Sid G H L A kl (Z11)/\f kl=12
 la:Sid G H L A lal (sl.map λ s=>V.ref s.la)/\f lal=13
 tl:Sid G H L A tll (sl.map λ s=>V.ref s.tl)/\f tll=14
 s3:sl.length=3
 k3:ks.length<=3
 sls:∀ i s,sl[i]? = some s->SlO G H L A f c i s
 kps:∀ i k s,ks[i]? = some k->sl[i]? = some s->Kp t G H L A k s.ls s.ns/\f k.td=4*i+2/\f k.en=4*i+3
 new:∀ i s,ks.length<=i->sl[i]? = some s->s.ls=List.replicate A.many 0/\s.ns=[]
section
variable {p a kl lal tll:Addr}{sc:List Int}{c n m:Nat}{G G' H H':Hp}{L L':LoL}{A A':LoA}{ks:List KpL}{sl:List SlA}{f:Addr->Nat}
theorem gi.next (v:Z0H) (st:Z5d) (lo:Lo K t G' H' L' A' m) (d):gi K t p a kl lal tll sc (c+d) G' H' L' A' m ks sl f:=by
 have tk:∀ b W,H b=some (.tup W)->H' b=some (.tup W):=λ b W e=>st.bt _ _ (v.lo.c.sL e) e
 have nm:∀ {b:Addr} {o:HO},H b=some o->b∉L.own A->b∉L'.own A':=λ e h z=>(st.fr _ z).elim h λ y=>by rw[y] at e;cases e
 refine⟨lo,st.p.trans v.pe,v.scr.imp id λ⟨o,e,n,l,z⟩=>⟨o,st.bt _ _ n e,nm e n,l,z⟩,⟨v.kl.1.next st,v.kl.2⟩,⟨v.la.1.next st,v.la.2⟩,⟨v.tl.1.next st,v.tl.2⟩,v.s3,v.k3,λ i s J=>?_,λ i k s hk J=>?_,λ i s hi J=>?_⟩
 ·have o:=v.sls i s J
  obtain⟨xs,U,V⟩:=o.tl
  exact⟨o.la.next st,Z9d,o.td.next st.em λ h p Y pl=>st.ev h p Y (Jl pl (o.lb h Y).2),by rw[st.em];exact o.ll,λ j O=>by rw[st.em] at O;exact⟨(o.lb j O).1,HU (o.lb j O).2 (st.eb j O)⟩,by have:=o.few;lia,o.f1,o.f2⟩
 ·obtain⟨F,Z,f2⟩:=v.kps i k s hk J
  obtain⟨xs,U,V⟩:=F.td
  exact⟨⟨by rw[st.p];exact st.bt _ _ F.nk F.self,nm F.self F.nk,Z9d,F.en.next st,F.ne⟩,Z,f2⟩
 ·rw[st.em];exact v.new i s hi J
theorem gi.same (v:Z0H) (s:Z1t):gi K t p a kl lal tll sc c G H' L A n ks sl f:=v.next (Stp.of s) (v.lo.same s) 0
theorem gi.t8 (v:Z0H) (lt:ks.length<3) (s:Z1t) (nk:H kp=none) (ek:H' kp=some Z7M) (nt:H td=none) (ne:H en=none) (n2:td≠en) (et:H' td=some Zr) (ee:H' en=some (.lst ZGK)) :
  ∃ f',gi K t p a kl lal tll sc c G (upd H' kl (.lst ((Z11)++[ZAV]))) L A n (ks++[ZGk]) sl f':=by
 have w:=v.same s
 have so:∀ {b:Addr} {o:HO},H b=some o->b≠td/\b≠en:=λ e=>⟨cB e nt,cB e ne⟩
 have O:∀ {b:Addr} {o:HO},H b=some o->lab (lab f td (4*ks.length+2)) en (4*ks.length+3) b=f b:=λ e=>by rw[kO (so e).2,kO (so e).1]
 have F:∀ {b:Addr} {o:HO},b≠kl->H' b=some o->upd H' kl (.lst ((Z11)++[ZAV])) b=some o:=λ n e=>by rw[cz n];exact e
 have U:∀ {b:Addr} {k:Nat},f b=k->k≠12->b≠kl:=λ e n z=>n (by rw[<- e,z];exact v.kl.2)
 have tk:∀ b us,H' b=some Z40->upd H' kl (.lst ((Z11)++[ZAV])) b=some Z40:=λ b us e=>F (λ z=>by rw[z,w.kl.1.1] at e;cases e) e
 have Z:=v.kl.1.1
 refine⟨lab (lab f td (4*ks.length+2)) en (4*ks.length+3),w.lo.put w.kl.1 kj,w.pe,v.scr.imp id λ⟨o,e,n,l,z⟩=>⟨o,F (U l Z4) Z6G,n,by rw[O e];exact l,z⟩,⟨⟨by rw[cy,F0];rfl,v.kl.1.2⟩,by rw[O Z];exact v.kl.2⟩,⟨⟨F (U v.la.2 Z4) w.la.1.1,v.la.1.2⟩,by rw[O v.la.1.1];exact v.la.2⟩,⟨⟨F (U v.tl.2 Z4) w.tl.1.1,v.tl.1.2⟩,by rw[O v.tl.1.1];exact v.tl.2⟩,v.s3,by rw[FQ,F6];lia,λ i s J=>?_,λ i k s' Y J=>?_,λ i s hi J=>?_⟩
 ·have o:=v.sls i s J
  have o':=w.sls i s J
  have hi:=(FK.mp J).1
  rw[v.s3] at hi
  obtain⟨xs,o1,o2⟩:=o'.tl
  obtain⟨a1,o3,_⟩:=o.tl
  exact⟨⟨F (U o.f1 Z1) o'.la.1,o.la.2⟩,⟨xs,⟨F (U o.f2 Z1) o1.1,o1.2⟩,o2.keep tk⟩,o.td,o.ll,o.lb,o.few,by rw[O o.la.1];exact o.f1,by rw[O o3.1];exact o.f2⟩
 ·rcases eQ Y with Y|⟨hi,rfl⟩
  ·obtain⟨q,f1,f2⟩:=w.kps i k s' Y J
   obtain⟨q0,_,_⟩:=v.kps i k s' Y J
   obtain⟨a1,o3,_⟩:=q0.td
   have hi:=(FK.mp Y).1
   refine⟨ZA2,by rw[O o3.1];exact f1,by rw[O q0.en.1];exact f2⟩
   simp only[FR,FU,Ga] at hb
   rcases hb with rfl|rfl|rfl
   ·exact F (λ z=>by have:=w.kl.1.1;rw[<- z,q.self] at this;cases this) e
   ·exact F (U f1 Z1) e
   ·exact F (U f2 Z1) e
  ·obtain⟨e1,e2⟩:=v.new i s' Z1 J
   rw[e1,e2]
   have W:∀ {b:Addr},H b=none->b≠kl:=λ h z=>by rw[z,Z] at h;cases h
   exact⟨⟨F (W nk) ek,λ z=>v.lo.c.il _ z nk,⟨[],Sid.new v.lo nt (F (W nt) et),.nil⟩,Sid.new v.lo ne (F (W ne) ee),n2⟩,by rw[kO n2,lj,hi],by rw[lj,hi]⟩
 ·rw[FQ,F6] at hi
  exact v.new i s Z1 J
theorem Kp.rb (F:Z6t):Kp t G H L { A with b:=g } k ls ns:=⟨F.self,F.nk,F.td,F.en,F.ne⟩
theorem jg {F J:Type}{l:List F}{i:Nat}{x y:F}{g:F->J}(h:l[i]? = some x) (e:g y=g x):(l.set i y).map g=l.map g:=by
 refine Hk λ j=>?_
 rw[FP,FP]
 by_cases z:i=j
 ·subst z;rw[F8 (ZFd).1,h];exact Z36
 ·rw[Gk z]
theorem gi.tells (v:Z0H) {w:Nat}{k:KpL}{s:SlA}{ln:Zc}{xs:Z04}(hn:n<=30) (hk:ks[w]? = some k) (hs:sl[w]? = some s) (bse:ZM5) (bt:But [k.td,k.en,s.la,s.tl] H H') (lo:Lo K t G H' L { A with b:=ZIh} n) (kp:Kp t G H' L A k ln (s.ns++due A.ths ZIg Z4b A.many)) (sla:Sid G H' L A s.la Z5m) (stl:Sid G H' L A s.tl xs) (nm:NmL H' xs (s.ns++due A.ths ZIg Z4b A.many)) :
  gi K t p a kl lal tll sc (c+1) G H' L { A with b:=ZIh} n ks (sl.set w { s with ls:=ln,ns:=s.ns++due A.ths ZIg Z4b A.many }) f:=by
 have hw:=(FK.mp hk).1
 have hw':=(FK.mp hs).1
 have m2:=v.lo.m2
 have os:=v.sls w s hs
 obtain⟨xs0,t1,_⟩:=os.tl
 obtain⟨kp0,f3,f4⟩:=v.kps w k s hk hs
 obtain⟨xs1,t2,_⟩:=kp0.td
 have up:∀ {b:Addr} {o:HO},b≠k.td->b≠k.en->b≠s.la->b≠s.tl->H b=some o->H' b=some o:=λ n1 n2 n3 n4 e=>bt _ _ (by simp only[FR,FU,Ga,Hz];exact⟨n1,n2,n3,n4⟩) e
 have uf:∀ {b:Addr} {o:HO} (i:Nat),f b=i->(i<4*w\/4*w+4<=i)->H b=some o->H' b=some o:=λ{b o} i e lt h=>by
  have f1:=os.f1
  have f2:=os.f2
  exact up (λ z=>by rw[z] at e;omega) (λ z=>by rw[z] at e;omega) (λ z=>by rw[z] at e;omega) (λ z=>by rw[z] at e;omega) h
 have tk:∀ b us,H b=some Z40->H' b=some Z40:=λ b us e=>up (λ z=>by rw[z,t2.1] at e;cases e) (λ z=>by rw[z,kp0.en.1] at e;cases e) (λ z=>by rw[z,os.la.1] at e;cases e) (λ z=>by rw[z,t1.1] at e;cases e) e
 have w3:w<3:=by have:=v.k3;omega
 have rs:∀ j:Nat,j<A.many->A.b j<=cO ln j:=λ j hj=>v.lo.rise bse hj
 have l30:∀ j:Nat,j<A.many->cO ln j<=30:=λ j hj=>by
  obtain⟨T,hT⟩:∃ T,A.ths[j]? = some T:=⟨_,FJ (by rw[v.lo.c.len2];exact hj)⟩
  have tw:=v.lo.tw T (FT hT)
  have:=(tw.pt (bse.pt v.lo.c.len2 hT)).2
  have:=tw.en
  omega
 have dl:=iB v.lo (a:=ZIg) (b:=cO ln) (m:=A.many)
 refine⟨lo,v.pe,v.scr.imp id λ⟨o,e,n,l,z⟩=>⟨o,uf _ l ZC e,n,l,z⟩,⟨⟨uf _ v.kl.2 ZC v.kl.1.1,v.kl.1.2⟩,v.kl.2⟩,⟨⟨?_,v.la.1.2⟩,v.la.2⟩,⟨⟨?_,v.tl.1.2⟩,v.tl.2⟩,by rw[Hm];exact v.s3,v.k3,λ i s' h=>?_,λ i k' s' h1 h2=>?_,λ i s' hi h=>?_⟩
 ·rw[Z7W];exact uf _ v.la.2 ZC v.la.1.1
 ·rw[Z7W];exact uf _ v.tl.2 ZC v.tl.1.1
 ·rcases fz hw' h with ⟨rfl,rfl⟩|⟨ne,h⟩
  ·exact⟨sla,⟨xs,stl,nm⟩,os.td.tell λ j hj=>⟨ZAP,l30 j hj⟩,bse.1.1,λ j hj=>⟨HU (os.lb j hj).1 ZAP,Z9U⟩,by have:=os.few;rw[FQ];omega,os.f1,os.f2⟩
  ·have o:=v.sls i s' h
   obtain⟨ys,o1,o2⟩:=o.tl
   exact⟨⟨uf _ o.f1 ZC o.la.1,o.la.2⟩,⟨ys,⟨uf _ o.f2 ZC o1.1,o1.2⟩,o2.keep tk⟩,o.td,o.ll,λ j hj=>⟨(o.lb j hj).1,HU (o.lb j hj).2 (rs j hj)⟩,by have:=o.few;omega,o.f1,o.f2⟩
 ·rcases fz hw' h2 with ⟨rfl,rfl⟩|⟨ne,h2⟩
  ·rw[hk] at h1;cases h1
   exact⟨kp.rb,f3,f4⟩
  ·obtain⟨q,g1,g2⟩:=v.kps i k' s' h1 h2
   refine⟨(ZA2).rb,g1,g2⟩
   simp only[FR,FU,Ga] at hb
   rcases hb with rfl|rfl|rfl
   ·exact up (λ z=>by have:=t2.1;rw[<- z,q.self] at this;cases this) (λ z=>by have:=kp0.en.1;rw[<- z,q.self] at this;cases this) (λ z=>by have:=os.la.1;rw[<- z,q.self] at this;cases this) (λ z=>by have:=t1.1;rw[<- z,q.self] at this;cases this) e
   ·exact uf _ g1 ZC e
   ·exact uf _ g2 ZC e
 ·rcases fz hw' h with ⟨rfl,rfl⟩|⟨ne,h⟩
  ·omega
  ·exact v.new i s' hi h
end
theorem gi.nQ {p a kl lal tll:Addr}{sc:Zc}{c n w:Nat}{G H:Hp}{L:LoL}{A:LoA}{ks:List KpL}{sl:List SlA}{f:Addr->Nat}{σ:St}{D:Ends}{u:TS}(v:Z0H) (hn:n<=30) (hc:c<=60) (hw:w<ks.length) (h1:σ[1]? = some Z7S) (h2:σ[2]? = some Z1V) (h4:σ[4]? = some Z23) (h5:σ[5]? = some Z22) (h8:σ[8]? = some (some (.int w)))
  (k:∀ H' A' a3,gi K t p a kl lal tll sc (c+1) G H' L A' n ks a3 f->u D σ H'):wH (Ep (tB (qM (zi K t) [] ER0 (gg (tOp Z9H ZJf (dZ 8)) (gg ZAj (gg (tOp Z9H (dZ 4) (dZ 8)) (gg (tOp Z9H (dZ 5) (dZ 8)) lD))))))) (uI (tC (V.bl false))) u D σ H:=by
 have w3:=v.k3
 obtain⟨U,Y⟩:∃ U,ks[w]? = some U:=ZL3
 obtain⟨s,O⟩:∃ s,sl[w]? = some s:=⟨_,FJ (by rw[v.s3];omega)⟩
 have F:=v.sls w s O
 obtain⟨xs,t1,t2⟩:=F.tl
 obtain⟨kp,f3,f4⟩:=v.kps w U s Y O
 have Z:∀ {i:Nat} {l:Addr} {ys:List V} {x:V},σ[i]? = some (Z6E)->H l=some Zb->ys[w]? = some x->Ev (tOp Z9H (dZ i) (dZ 8)) σ H x:=λ{i l ys x} a b c Q q=>⟨_,a,_,h8,l,ys,w,x,rfl,rfl,SqL.of b,dW c,q⟩
 have f1:=F.f1
 have f2:=F.f2
 have J:∀ {a b:Addr},f a≠f b->a≠b:=λ h z=>h (by rw[z])
 refine tcl (vs:=[.ref U.kp,Zs,.ref s.la,.ref s.tl]) (.cons (Z h2 v.kl.1.1 (by rw[FP,Y];rfl)) (.cons (.n h1) (.cons (Z h4 v.la.1.1 (by rw[FP,O];rfl)) (.cons (Z h5 v.tl.1.1 (by rw[FP,O];rfl)) .nil)))) ⟨G,L,A,n,U,s.ls,s.ns,s.la,s.tl,xs,by rw[v.pe];rfl,v.lo,hn,kp,F.la,t1,t2,?_,F.ll,F.lb,by have:=F.few;omega,λ ln a6 H' W bt a2 a1 a4 a5 nm=>⟨true,rfl,fG (k H' _ _ (v.tells hn Y O W bt a2 a1 a4 a5 nm))⟩⟩
 simp only[GX,FR,FU,Ga,Hz,Jp,IT,and_true]
 exact⟨⟨J ZC,J ZC,J ZC⟩,⟨J ZC,J ZC⟩,J ZC⟩
def zl (K:W.Frag) (ts:Zq):Sp:=λ vs H Q _=>∃ a ns,vs=[Z_]/\SqL K H a Z1Z/\ns.length<=63/\(∀ P∈ts,H P=some (.tbl #[]))/\∀ H,Q Z2N H
set_option maxHeartbeats 4000000 in
theorem Aw (T:ZJ) (Tb:ZDm):dk P w K mg base ZM 11 t.f_law t.fd_law ["_law_script"] (zl K t.ts):=by
 refine T.F_law.okN gh Z6 ZB
 ·obtain⟨a,ns,rfl,_⟩:=h;rfl
 ·obtain⟨a,ns,rfl,ha,_,tab,k⟩:=h
  have tab:vB t H:=.inl (tab _ T.tin_bu)
  refine⟨_,(cD (cV (i:=1) gh.nd rfl Z1R (cU (AA (K:=K) T Tb) Z0 rfl T.mg_dg T.kp_dg T.b_dg .nil cH Z5N))
   (cD (cV (i:=2) gh.nd rfl Z5 (dS Z0R))
   (cD (cV (i:=3) gh.nd rfl Z5 Z1a)
   (cD (fF ["_law_script","_law_loom_here","_law_keepers","_law_later","_law_lasts","_law_told","_law_k","_law_number","_law_which","_law_options_here","_law_turn"] 1 (i:=4) rfl gh.nd rfl Z5 (dF rfl T.no_range ZCS) (λ _ _ _ _ _=>⟨(cN (i:=10) (show List.Nodup (["_law_script","_law_loom_here","_law_keepers","_law_later","_law_lasts","_law_told","_law_k","_law_number","_law_which","_law_options_here","_law_turn"]:ZT) from by decide +kernel) rfl Z5),dG,(dH ["_law_script","_law_loom_here","_law_keepers","_law_later","_law_lasts","_law_told","_law_k","_law_number","_law_which","_law_options_here","_law_turn","_law_hand"] 1 rfl Zw (λ _ _ _ _ _=>⟨(cN (i:=11) (show List.Nodup (["_law_script","_law_loom_here","_law_keepers","_law_later","_law_lasts","_law_told","_law_k","_law_number","_law_which","_law_options_here","_law_turn","_law_hand"]:ZT) from by decide +kernel) rfl Z5),dG,cJ⟩))⟩))
   (cD (cV (i:=5) gh.nd rfl Z5 (dS (cF Z2g (cF Z2g (cF Z2g cC)))))
   (cD (dI PassesOwn.never rfl (dF rfl T.no_range (cF Z1a cC)) (cN (i:=6) gh.nd rfl Z5)
    (cD (cV (i:=7) gh.nd rfl Z5 (cU Z8C Z0 rfl T.mg_ct T.kp_ct T.b_ct .nil cH (cF ZO Z1r)))
   (cD (dy (cZ hU Z5y Z1E Z0Z)
    (cE Z7k)
    da)
   (cD (dy Z3N
    (cE (cR (cU (AR (K:=K) T) Z0 rfl T.mg_dw T.kp_dw T.b_dw .nil cH (cF ZI (cF (cU (C1 (K:=K) T) Z0 rfl T.mg_dh T.kp_dh T.b_dh .nil cH (cF (cK (K:=K) ZI rfl) (cF Z8s cC))) cC)))))
    (cE (dy Z3N
    (cE (cR (cX (cY ZR ZV cJ ZA) T.cl_Keeper T.me_bs (Dp (K:=K) T) Z0 T.b_bs .nil cH)))
    (cE (dy Z3N
    (cD (cV (i:=8) gh.nd rfl Z5 (cS eg Z8s Z2Y))
   (cE (dy Z0J
    Z0T
    da)))
    (cD (cV (i:=9) gh.nd rfl Z5 (cU (EM (K:=K) T) Z0 rfl T.mg_bv T.kp_bv T.b_bv .nil cH Zf))
   (cE (cR (cU (Dc (K:=K) T) Z0 rfl T.mg_dq T.kp_dq T.b_dq .nil cH (cF ZI (cF (cY ZR (pv 9) (cS eg Z8s (dB ZFw rfl T.no_len jM (cF (pv 9) cC))) ZA) cC)))))))))))
   (cE (dy (PW.pt (hZ Z13 (gS Z13)))
    Z0T
    da))))))
   (cD Z7k
   (cD (dI PassesOwn.never rfl (dF rfl T.no_range (cF Z2Y cC)) (cN (i:=8) gh.nd rfl Z5)
    (cD (dy (cZ Z2R (cX ZHN T.cl_Keeper T.me_bt (uV (K:=K) T) Z0 T.b_bt .nil cH) (cY ZR Z1O ZCL ZA) Z0Z)
    Z0T
    da)
   (cE (dy Z0J
    Z0T
    da))))
   Z0T)))))))),?_⟩
  refine Z16
  refine tcl Zd ⟨a,ns,rfl,ha,tab,λ G H1 L A lo ha1 no1 b0=>?_⟩
  refine(sn ee1 λ rr2 ee2=>?_:Z5E)
  have m2:=lo.m2
  refine⟨_,rfl,λ kp dx nk ndx nex=>?_⟩
  have s2:=cG.ins (o:=ZEN) nk ndx
  refine⟨H1,G,L,A,0,kp,dx,rfl,s2,nk,cy,lo,λ H2 td en s2 ek nt ne n2 et ee=>⟨rfl,by show 1<=sizeLine;decide,λ kl nkl=>?_⟩⟩
  refine(sn ee2 λ rr3 ee3=>?_:Z6H)
  have cA:(∀ H',ZKX)\/∃ o,H1 a=some o/\a∉L.own A/\∀ H',H' a=some o->SqL K H' a Z1Z:=by
   rcases ha1 with (e|⟨o,e⟩)|e
   ·exact no1.elim (λ z=>.inr ⟨_,e,z,λ H' h=>ZGZ⟩) .inl
   ·exact no1.elim (λ z=>.inr ⟨_,e,z,λ H' h=>.inl (.inr ⟨o,h⟩)⟩) .inl
   ·exact .inl λ _=>.inr e
  have tr0:Trk H1 H2 (λ _=>15) []:=⟨λ x hx=>(by cases hx),λ _ _=>rfl⟩
  have tr2:=(tr0.add 2 nt (λ x hx=>by cases hx) et).add 3 ne (λ x hx=>by rw[FL] at hx;rw[hx];exact n2) ee
  have s3:=cG.new (o:=.lst [ZAV]) nkl
  have ekl:=cy (H:=H2) (a:=kl) (o:=.lst [ZAV])
  generalize upd H2 kl (.lst [.ref kp])=H3 at s3 ekl ⊢
  have s13:=Z9z
  have tr3:=tr2.new 12 s2 nkl s3 ekl
  have ek3:=s3 _ _ ek
  clear tr0 tr2 et ee ekl
  refine⟨_,rfl,a,ns,0,rfl,s13.seq ha1,Z4,λ c0=>⟨c0,3,rfl,Z4,Z4,λ dl=>⟨_,_,rfl,rfl,by show (0:Int)<25;decide,?_⟩⟩⟩
  refine(sn ee3 λ rr4 ee4=>?_:ZA1)
  refine⟨3,rfl,Z4,Z4,eO (n:=3) Z4 λ lal nlal=>⟨λ i σ2 ys H'=>(∃ (qs:List Addr) (f:Addr->Nat) (S:List (Addr×List V×Nat)),ys=qs.map V.ref/\qs.length=i/\Trk H1 H' f S/\(∀ x∈S,x.1≠lal)/\(∀ x∈[(kl,[V.ref kp],12),(en,ZGK,3),(td,[],2)],x∈S)/\(∀ (j:Nat) q,qs[j]? = some q->(q,ZGK,4*j)∈S)/\H' lal=some Zb/\cG H3 H')/\∃ o,σ2=[Z4y,ZE,Z1V,some (.int (dl%25)),none,none,none,none,none,none,o],⟨⟨[],_,_,rfl,rfl,tr3.keep (q:=lal) (But.of (cG.new nlal)) (tr3.ne nlal),tr3.ne nlal,λ x hx=>hx,(λ j q e=>by simp at e),cy,cG.new nlal⟩,_,rfl⟩,?_,?_,?_⟩⟩
  ·rintro i σ2 ys H' hi ⟨⟨qs,f,S,rfl,len,_⟩,_⟩
   rw[FO,len];exact Z9
  ·rintro i σ2 ys H4 hi ⟨⟨qs,f,S,rfl,len,tr,nS,S0,at4,e4,s4⟩,o,rfl⟩
   dsimp only[eh,gy]
   have lo4:=lo.same ZKq
   refine fC ⟨_,rfl,L.p,_,L.dx,_,_,rfl,lo4.c.self,T.cl_Loom,T.na_dk,rfl,(A.many:Int),rfl,Z1,Z1,eO (n:=A.many) Z1 λ q nq=>⟨λ j σ3 zs H'=>(zs=iV (List.replicate j 0)/\H' q=some Z5P/\cG H4 H')/\∃ o,σ3=[Z4y,ZE,Z1V,some (.int (dl%25)),none,none,none,none,none,none,some (.int (0+(i:Int))),o],⟨⟨rfl,cy,cG.new nq⟩,_,rfl⟩,?_,?_,?_⟩⟩
   ·rintro j σ3 zs H' hj ⟨⟨rfl,_⟩,_⟩
    rw[eB,HN];exact Z9
   ·rintro j σ3 zs H' hj ⟨⟨rfl,e5,s5⟩,o,rfl⟩
    dsimp only[eh,gy]
    refine fC ⟨e5,Nx.mk hj ⟨⟨?_,cy,λ c u e=>?_⟩,_,rfl⟩⟩
    ·rw[JQ,ip]
    ·rw[cz (cB e nq)];exact ZLD
   ·rintro σ3 zs H5 ⟨⟨rfl,e5,s5⟩,o,rfl⟩
    have ql:q≠lal:=λ z=>by rw[z,e4] at nq;cases nq
    have tr5:=tr.new (4*i) ZKq nq s5 e5
    have nS5:∀ x∈(q,ZGK,4*i)::S,x.1≠lal:=λ x hx=>by
     rcases FR.mp hx with rfl|hx
     ·exact ql
     ·exact nS x hx
    refine⟨ZIK,Nx.mk hi ⟨⟨qs++[q],_,_,by rw[F0];rfl,by rw[FQ,len];rfl,tr5.keep kj nS5,nS5,λ x hx=>FW _ (S0 x hx),λ j c h=>?_,cy,λ c u e=>?_⟩,_,rfl⟩⟩
    ·rcases eQ h with h|⟨e,rfl⟩
     ·exact FW _ (at4 j c h)
     ·rw[e,len];exact FZ
    ·rw[cz (cB e nlal)];exact s5 _ _ ZGC
  rintro σ2 ys H4 ⟨⟨qs,f4,S4,rfl,len,tr4,nS4,S0,at4,e4,s34⟩,o,rfl⟩
  have s14:=s13.trans s34
  have tr5:=tr4.add 13 (s13.free nlal) nS4 e4
  refine(sn ee4 λ rr5 ee5=>?_:ZA0)
  refine⟨Z4,λ t0 n0=>⟨Z4,λ t1 n1=>⟨Z4,λ t2 n2'=>⟨by show 3<=sizeLine;decide,λ tll n3=>?_⟩⟩⟩⟩
  have g0:=cG.new (o:=Zr) n0
  have tr6:=tr5.new 1 s14 n0 g0 cy
  generalize upd H4 t0 (.lst [])=H5 at g0 tr6 n1 n2' n3 ⊢
  have g1:=cG.new (o:=Zr) n1
  have tr7:=tr6.new 5 (s14.trans g0) n1 g1 cy
  generalize upd H5 t1 (.lst [])=H6 at g1 tr7 n2' n3 ⊢
  have g2:=cG.new (o:=Zr) n2'
  have tr8:=tr7.new 9 ZDA n2' g2 cy
  generalize upd H6 t2 (.lst [])=H7 at g2 tr8 n3 ⊢
  have g3:=cG.new (o:=.lst [.ref t0,.ref t1,.ref t2]) n3
  have tr9:=tr8.new 14 ((ZDA).trans g2) n3 g3 cy
  generalize upd H7 tll (.lst [.ref t0,.ref t1,.ref t2])=H8 at g3 tr9 ⊢
  have s48:=((g0.trans g1).trans g2).trans g3
  have s18:=s14.trans s48
  clear tr3 tr4 tr5 tr6 tr7 tr8
  generalize lab (lab (lab (lab (lab f4 lal 13) t0 1) t1 5) t2 9) tll 14=f at tr9
  obtain⟨tr,fa⟩:=tr9
  have inS:∀ {x},x∈S4->x∈(tll,Z4j,14)::(t2,[],9)::(t1,[],5)::(t0,[],1)::(lal,Z24,13)::S4:=λ h=>FW _ (FW _ (FW _ (FW _ (FW _ h))))
  have sid:∀ {x:Addr×List V×Nat},x∈(tll,Z4j,14)::(t2,[],9)::(t1,[],5)::(t0,[],1)::(lal,Z24,13)::S4->Sid G H8 L A x.1 x.2.1/\f x.1=x.2.2:=λ{x} hx=>let ⟨a,b,c⟩:=tr x hx;⟨Sid.new lo a b,c⟩
  have r0:∀ j:Nat,j<A.many->cO Z00 j=0:=λ j hj=>dY (y:=0) (by rw[IM,FX hj])
  have slot:∀ {i:Nat} {q t':Addr},qs[i]? = some q->(t',([]:Z04),4*i+1)∈(tll,Z4j,14)::(t2,[],9)::(t1,[],5)::(t0,[],1)::(lal,Z24,13)::S4->SlO G H8 L A f 0 i ⟨q,t',Z00,[]⟩:=λ{i q t'} h1 h2=>by
   obtain⟨a1,a2⟩:=sid (inS (at4 i q h1))
   obtain⟨b1,b2⟩:=sid h2
   exact⟨a1,⟨[],b1,.nil⟩,⟨λ h p hh pl=>by rw[r0 h hh] at pl;lia,λ x hx=>(by cases hx)⟩,HN ..,λ j hj=>by rw[r0 j hj];exact⟨Z9U,b0 j⟩,Z8g,a2,b2⟩
  obtain⟨q0,q1,q2,rfl⟩:∃ q0 q1 q2,qs=[q0,q1,q2]:=by
   rcases qs with _|⟨q0,_|⟨q1,_|⟨q2,_|⟨_,_⟩⟩⟩⟩
   ·cases len
   ·cases len
   ·cases len
   ·exact⟨q0,q1,q2,rfl⟩
   ·simp at len
  have v0:gi K t L.p a kl lal tll ns 0 G H8 L A 0 [ZGk] [⟨q0,t0,Z00,[]⟩,⟨q1,t1,Z00,[]⟩,⟨q2,t2,Z00,[]⟩] f:=by
   have td8:=sid (inS (S0 (td,[],2) Z8))
   have en8:=sid (inS (S0 (en,ZGK,3) Z8))
   refine⟨lo.same s18,rfl,cA.imp id λ⟨o,e,n,z⟩=>⟨o,s18 _ _ e,n,fa a (by rw[e];simp),z⟩,sid (inS (S0 (kl,[.ref kp],12) (by simp))),sid (x:=(lal,_,13)) (by simp),sid (x:=(tll,_,14)) (by simp),rfl,by show 1<=3;decide,λ i s h=>?_,λ i k' s h1 h2=>?_,λ i s hi h=>?_⟩
   ·rcases i with _|_|_|i
    ·cases h;exact ZFI
    ·cases h;exact ZFI
    ·cases h;exact ZFI
    ·cases h
   ·rcases i with _|i
    ·cases h1;cases h2
     exact⟨⟨(s34.trans s48) _ _ ek3,λ z=>lo.c.il _ z nk,⟨[],td8.1,.nil⟩,en8.1,n2⟩,td8.2,en8.2⟩
    ·cases h1
   ·rcases i with _|_|_|i
    ·cases h;exact Z05
    ·cases h;exact Z05
    ·cases h;exact Z05
    ·cases h
  clear tr fa inS sid r0 slot S0 at4 nS4 e4
  refine(sn ee5 λ rr6 ee6=>?_:rr5 _ _ _)
  refine⟨_,rfl,a,ns,0,rfl,v0.scr.sq,Z4,λ c0=>⟨c0,2,rfl,Z4,Z4,λ d=>⟨_,_,rfl,rfl,by show (0:Int)<25;decide,?_⟩⟩⟩
  have x0:=He d (b:=25) Z4
  have x1:=GR d (b:=25) Z4
  refine⟨d%25,rfl,Z1,Z1,fE (lo:=0) (λ i σ H'=>(∃ G L2 A2 ks sl f,gi K t L.p a kl lal tll ns i G H' L2 A2 i ks sl f/\1<=ks.length/\ks.length<=2/\((i:Int)<=dl%25->ks.length=1))/\∃ o6 o7 o8 o9,σ=[Z4y,ZE,Z1V,some (.int (dl%25)),Z23,Z22,o6,o7,o8,o9]) ⟨⟨G,L,A,_,_,f,v0,Z9,by show 1<=2;decide,λ _=>rfl⟩,_,_,_,_,rfl⟩ ?_ ?_⟩
  ·rintro i σ H9 hi ⟨⟨G2,L2,A2,ks,sl,f2,v,k1,k2,kl1⟩,o6,o7,o8,o9,rfl⟩
   have hi30:i<30:=Z1
   refine sq λ qq1 ff1=>?_
   refine⟨_,rfl,a,ns,4,rfl,v.scr.sq,Z4,λ c4=>⟨_,rfl,c4,_,rfl,Z1,Z1,λ nb=>?_⟩⟩
   refine(sn ff1 λ qq2 ff2=>?_:qq1 _ _ _)
   have go:∀ (D:Ends) (G2 H9:Hp) (L2:LoL) (A2:LoA) (ks:List KpL) (sl:List SlA) (f2:Addr->Nat),gi K t L.p a kl lal tll ns i G2 H9 L2 A2 i ks sl f2->1<=ks.length->ks.length<=2->((i:Int)+1<=dl%25->ks.length=1)->(∀ H' o8 o9,(∃ G L2 A2 ks sl f,gi K t L.p a kl lal tll ns (i+1) G H' L2 A2 (i+1) ks sl f/\1<=ks.length/\ks.length<=2/\((i:Int)+1<=dl%25->ks.length=1))->D.nx [Z4y,ZE,Z1V,some (.int (dl%25)),Z23,Z22,some (.int (0+(i:Int))),Z76,o8,o9] H')->qq2 D [Z4y,ZE,Z1V,some (.int (dl%25)),Z23,Z22,some (.int (0+(i:Int))),Z76,o8,o9] H9:=λ D G2 H9 L2 A2 ks sl f2 v k1 k2 kl1 hD=>by
    have m2':=v.lo.m2
    refine(sn ff2 λ qq3 ff3=>?_:qq2 _ _ _)
    have fin:∀ (G3 H10:Hp) (L3:LoL) (A3:LoA) (sl3:List SlA) (o8 o9:Option V),gi K t L.p a kl lal tll ns (i+1) G3 H10 L3 A3 (i+1) ks sl3 f2->qq3 D [Z4y,ZE,Z1V,some (.int (dl%25)),Z23,Z22,some (.int (0+(i:Int))),Z76,o8,o9] H10:=λ G3 H10 L3 A3 sl3 o8 o9 x=>by
     subst ff3
     have still:∀ {H10:Hp} {Q:VK} {E:XK} (j:Nat),j<3->gi K t L.p a kl lal tll ns (i+1) G3 H10 L3 A3 (i+1) ks sl3 f2->(∀ H',cG H10 H'->Q Z2N H')->qM (zj K t) [] E (gg ZAj (gg (tOp Z9H (dZ 5) (tC Z0r)) lD)) [Z4y,ZE,Z1V,some (.int (dl%25)),Z23,Z22,some (.int (0+(i:Int))),Z76,o8,o9] H10 Q:=λ{H10 Q E} j hj x kq=>by
      obtain⟨s,hs⟩:∃ s,sl3[j]? = some s:=⟨_,FJ (by rw[x.s3];exact hj)⟩
      have os:=x.sls j s hs
      obtain⟨xs,t1,t2⟩:=os.tl
      exact tcl (vs:=[Zk,.ref s.tl]) (.cons ZL (.cons (λ Q q=>⟨_,rfl,tll,_,j,_,rfl,rfl,SqL.of x.tl.1.1,dW (by rw[FP,hs];rfl),q⟩) .nil)) ⟨G3,L3,A3,i+1,s.tl,xs,s.ns,s.ls,by rw[x.pe];rfl,x.lo,Z1,t1.1,t2,os.td,λ j hj=>(os.lb j hj).2,by have:=os.few;lia,kq⟩
     exact still 0 Z4 x λ H11 s11=>⟨true,rfl,fG (still 1 Z4 (x.same s11) λ H12 s12=>⟨true,rfl,fG (hD H12 o8 o9 ⟨G3,L3,A3,ks,sl3,f2,x.same (s11.trans s12),k1,k2,kl1⟩)⟩)⟩
    refine⟨_,rfl,_,_,rfl,rfl,by show (0:Int)<16;decide,rfl,_,rfl,fY Z2t λ z=>⟨_,rfl,_,_,rfl,rfl,by show (0:Int)<32;decide,rfl,_,rfl,fY Z2t λ z=>⟨_,rfl,_,_,rfl,rfl,by show (0:Int)<8;decide,rfl,_,rfl,Z0W⟩⟩⟩
    ·refine⟨_,rfl,_,rfl,L.p,_,L2.dx,_,_,rfl,by rw[<- v.pe];exact v.lo.c.self,T.cl_Loom,T.na_dk,rfl,_,rfl,_,_,rfl,rfl,Z1U,nb/16,A2.many,rfl,m2'.2,λ g fs H6 s6 nf ef=>?_⟩
     exact⟨G2,L2,A2,i,g,fs,congrArg (λ x=>[V.ref x,V.ref g]) v.pe.symm,v.lo.same s6,Z1,SqL.of ef,λ z=>v.lo.c.il _ z nf,λ x G' H' L' A' st lo'=>fin _ _ _ _ _ _ _ (v.next ZDj lo'.more 1)⟩
    ·obtain⟨k0,hk⟩:∃ k0,ks[0]? = some k0:=⟨_,FJ k1⟩
     obtain⟨s0,hs⟩:∃ s0,sl[0]? = some s0:=⟨_,FJ (by rw[v.s3];decide)⟩
     obtain⟨kp,_⟩:=v.kps 0 k0 s0 hk hs
     exact tm (λ Q q=>⟨_,rfl,kl,_,((0:Nat):Int),_,rfl,rfl,ZIv,dW (by rw[FP,hk];rfl),q⟩) kp.self rfl .nil ⟨G2,L2,A2,i,k0.kp,k0.dx,_,rfl,kp.self,rfl,kp.nk,v.lo,Z1,λ H' L' A' st lo'=>fin _ _ _ _ _ _ _ (v.next st lo'.more 1)⟩
    ·have kl0:(0:Int)<((Z11).length:Int):=by rw[FO];lia
     have y0:=He (nb/16) (b:=((Z11).length:Int)) Z1
     have y1:=GR (nb/16) kl0
     obtain⟨w,hw⟩:=Gr y0
     refine⟨_,rfl,_,_,rfl,rfl,Z1U,_,rfl,kl,_,rfl,.inl ZIv,_,_,rfl,rfl,kl0,?_⟩
     exact v.nQ (w:=w) Z1 Z1 (by rw[FO] at hw y1;lia) rfl rfl rfl rfl (congrArg (λ x=>some (some (V.int x))) hw) λ H' A' sl' x=>fin _ _ _ _ _ _ _ (x.next (Stp.of Z3F) x.lo.more 0)
    ·refine tcl Zd ⟨G2,L2,A2,i,congrArg (λ x=>[V.ref x]) v.pe.symm,v.lo,Z1,λ l ds H6 s6 nl el d0 d1 al=>?_⟩
     have q0:(0:Int)<(ds.length:Int):=Z1
     have y0:=He (nb/16) (b:=(ds.length:Int)) Z1
     have y1:=GR (nb/16) q0
     obtain⟨u,hu⟩:∃ u,ds[(nb/16%(ds.length:Int)).toNat]? = some u:=Z5V
     have de:=al u (FT hu)
     obtain⟨b,rfl,_⟩:=id de
     have at0:atI ds (nb/16%(ds.length:Int))=some (Zj):=by
      have e:nb/16%(ds.length:Int)=(((nb/16%(ds.length:Int)).toNat:Nat):Int):=Z1
      rw[e];exact dW hu
     refine⟨_,rfl,_,rfl,_,rfl,_,_,rfl,rfl,Z1U,_,rfl,l,_,rfl,.inl Z39,_,_,rfl,rfl,q0,l,_,_,Zj,rfl,rfl,Z39,at0,?_⟩
     exact⟨G2,L2,A2,i,b,congrArg (λ x=>[V.ref x,V.ref b]) v.pe.symm,v.lo.same s6,hi30,de,λ G' H' L' A' st lo'=>fin _ _ _ _ _ _ _ (v.next ZDj lo' 1)⟩
   refine⟨_,rfl,_,rfl,rfl,_,rfl,Z0W⟩
   ·have z:(0:Int)+(i:Int)=dl%25:=V.int.inj (GH z)
    refine Z2E
    refine⟨H9,G2,L2,A2,i,kp,dx,Z5H,ZLZ,nk,cy,v.lo,λ H10 td en s10 ek nt ne n2 et ee=>⟨rfl,kl,_,ZAV,rfl,rfl,ZHh,dc (by rw[FO];lia),?_⟩⟩
    obtain⟨f',v'⟩:=v.t8 (by have:=kl1 Z1;lia) s10 nk ek nt ne n2 et ee
    have l1:=kl1 Z1
    exact go _ _ _ _ _ _ _ _ v' (by rw[FQ];lia) (by rw[FQ,F6];lia) (λ q=>Z1) λ H' o8 o9 x=>ZFA
   ·exact go _ _ _ _ _ _ _ _ v k1 k2 (λ q=>kl1 Z1) λ H' o8 o9 x=>ZFA
  ·rintro σ H9 ⟨⟨G2,L2,A2,ks,sl,f2,v,k1,k2,kl1⟩,o6,o7,o8,o9,rfl⟩
   refine(sn ee6 λ rr7 ee7=>?_:rr6 _ _ _)
   have n30:(d%25).toNat<=25:=Z1
   generalize (d%25).toNat=n at v n30
   refine Z2E
   refine⟨H9,G2,L2,A2,n,kp,dx,Z5H,ZLZ,nk,cy,v.lo,λ H10 td en s10 ek nt ne n2 et ee=>⟨rfl,kl,_,ZAV,rfl,rfl,ZHh,dc (by rw[FO];lia),?_⟩⟩
   obtain⟨f',v'⟩:=v.t8 Z1 s10 nk ek nt ne n2 et ee
   refine(sn ee7 λ rr8 ee8=>?_:rr7 _ _ _)
   generalize upd H10 kl (.lst ((ks.map λ k=>V.ref k.kp)++[.ref kp]))=H11 at v' ⊢
   generalize ks++[⟨kp,dx,td,en⟩]=ks' at v'
   have k3:=v'.k3
   refine⟨_,rfl,kl,_,rfl,.inl (SqL.of v'.kl.1.1),_,rfl,Z1,by rw[FO];lia,fE (lo:=0) (n:=(ks'.map λ k=>V.ref k.kp).length) (λ w σ H'=>(∃ A3 sl3,gi K t L.p a kl lal tll ns (n+w) G2 H' L2 A3 n ks' sl3 f')/\∃ o6 o7 o8 o9,σ=[Z4y,ZE,Z1V,some (.int (dl%25)),Z23,Z22,o6,o7,o8,o9]) ⟨⟨A2,sl,v'⟩,_,_,_,_,rfl⟩ ?_ ?_⟩
   ·rintro w σ H12 hw ⟨⟨A3,sl3,x⟩,o6,o7,o8,o9,rfl⟩
    rw[FO] at hw
    rw[JE]
    obtain⟨kk,hk⟩:∃ kk,ks'[w]? = some kk:=ZL3
    obtain⟨s,hs⟩:∃ s,sl3[w]? = some s:=⟨_,FJ (by rw[x.s3];lia)⟩
    obtain⟨xs,t1,t2⟩:=(x.sls w s hs).tl
    obtain⟨kq,_⟩:=x.kps w kk s hk hs
    obtain⟨ys,u1,u2⟩:=kq.td
    refine tm (λ Q q=>⟨_,rfl,_,rfl,kl,_,w,_,rfl,rfl,SqL.of x.kl.1.1,dW (by rw[FP,hk];rfl),q⟩) kq.self rfl .nil ⟨kk.kp,kk.dx,_,kk.td,kk.en,ys,rfl,kq.self,u1.1,λ l nl=>?_⟩
    have sl:=cG.new (o:=.lst ys) nl
    refine⟨_,rfl,_,rfl,tll,_,w,_,rfl,rfl,SqL.of (sl _ _ x.tl.1.1),dW (by rw[FP,hs];rfl),eqN cy (u2.same sl) (sl _ _ t1.1) (t2.same sl) Z3k⟩
    exact(x.same sl).nQ (w:=w) Z1 Z1 hw rfl rfl rfl rfl rfl λ H' A' sl' y=>⟨⟨A',sl',y⟩,_,_,_,_,rfl⟩
   ·rintro σ H12 ⟨_,o6,o7,o8,o9,rfl⟩
    subst ee8
    exact k H12
end
def xw:Nat->(List Value->Prop)->Prop
 | 0,P=>P []
 | n+1,P=>∀ a,xw n λ l=>P (a::l)
theorem xw.at:∀ {P:List Value->Prop},xw n P->∀ us:List Value,us.length=n->P us:=by
 induction n with
 | zero=>
  intro P h us e
  rw[HB e]
  exact h
 | succ n F=>
  intro P h us e
  cases us with
  | nil=>cases e
  | cons a l=>exact F (h a) l (Nat.succ.inj e)
theorem bd (h:xw ps.length λ us=>bindArgs fd Z4F=pure Z7z):Binds K fd ps []:=.all λ us F=>h.at us F
theorem walk {l:W.OpenLaw}{q:Program}{loose:ZT}{XP:(Str->Option Value)->Heap->Prop}{YP:World->Heap->Prop}{d:DefRec}{K:Params->W.Frag}(ts:Zq) (hn:l.most=some 63) (hdf:d.params.defaults=[])
  (hY:∀ (w:World) (h:Heap),YP w h->(Z2H).In h) (hT:∀ (w:World) (h:Heap),YP w h->∀ P∈ts,h.get? P=some (W.tabObj #[]))
  (F:∀ (w:World) (mg:Str->Option Value) (fa:Addr) (h:Heap),(Z2H).In h->h.Ns mainGlobals mg->mg d.name=some (.ref fa) ->
   ∃ t:Adr,Txt Z2H mg t/\t.f_law=fa/\t.ts=ts/\∀ (s:Shared) (v:Value),BindsTo s t.fd_law ⟨[v],[]⟩ [("_law_script",v)]) :
  W.WalkO q loose XP YP l.row.toRowW d [] Z4l:=
 L2.uG (n:=63) (k:=11) (x:="_law_script") (CX:=λ w=>CXr l.prog w) (sp:=λ w=>zl Z2H ts) ts hn Z4 hdf ⟨rfl,Z4,Z4⟩ hY hT
  (λ w mg fa h kin G hmg=>by
   obtain⟨t,T,e,e2,b⟩:=F w mg fa h kin G hmg
   subst e;subst e2
   exact⟨t.fd_law,[(t.cd_bu,t.tb_bu)],List.forall_mem_cons.mpr ⟨⟨T.tab_bu,T.tn_bu,T.tin_bu⟩,List.forall_mem_nil _⟩,T.tall,b,λ base _ _ tb=>Aw T ⟨tb _ FZ⟩⟩)
  (λ _ H a ns hl hH hS=>⟨a,ns,rfl,hS,hl,hH,λ _=>rfl⟩) λ _ _ _ _ _ z=>by
   obtain⟨_,_,_,_,_,_,z⟩:=z
   exact z
end B
open PySem PySem.W PyProof.Rows
namespace PySem.W.Fast
def tw10159945955823112211:=Prop
def tw3772957397262627682:=Prop
def tw1558887612088239904:=Prop
def tw7007654014867336597:=Prop
def tw15852941145026474790:=Prop
def tw11223967669193595586:=Prop
def tw13226574297818185232:=Prop
def tw11133573927945556247:=Prop
def tw4396418166647740413:=Prop
def tw12045260477528538951:=Prop
def tw13115672201905036138:=Prop
def tw11248286425034049950:=Prop
def tw8042539787387693998:=Prop
def tw12269491515140599489:=Prop
def tw10647874433214656081:=Prop
def tw9386663276881040559:=Prop
def tw2974571556107245946:=Prop
def tw2915024640753502105:=Prop
def tw14943286976102017531:=Prop
def tw11558951136530135791:=Prop
def tw17671813317960190274:=Prop
def tw13625708447753338256:=Prop
def tw7645226350579554753:=Prop
def tw7123097951780426357:=Prop
def tw15635611986143364658:=Prop
def tw10627007415843838748:=Prop
def tw2601515650930436961:=Prop
def tw4501510049702960887:=Prop
def tw1326111719986641179:=Prop
def tw9093097847255983698:=Prop
def tw8263100108168144513:=Prop
def tw10058419246395978849:=Prop
def tw12287211791071848586:=Prop
def tw15354781046269254451:=Prop
def tw570857259977956521:=Prop
def tw5585864357024614250:=Prop
def tw1061337226980490425:=Prop
def tw2659669240392132001:=Prop
def tw8638651977368872798:=Prop
def tw17926348108650855571:=Prop
def tw13527657658135102329:=Prop
def tw16721923398331544408:=Prop
def tw7921061288008879497:=Prop
def tw16252314583617754596:=Prop
def tw5622428692835242348:=Prop
def tw4080785503239163632:=Prop
def tw13295304967904683417:=Prop
def tw5948480157030003575:=Prop
def tw5566993115569312801:=Prop
def tw2701621668944114070:=Prop
def tw15612778039937862353:=Prop
def tw10969959869829353559:=Prop
def tw12157157509905364137:=Prop
def tw2301997032392225151:=Prop
def tw9327527488556237993:=Prop
def tw5950424675777166672:=Prop
def tw15219832783820344959:=Prop
def tw1729960394761495063:=Prop
def tw4951384978129275928:=Prop
def tw2908544605648739889:=Prop
def tw7114696789637136296:=Prop
def tw9234699186721331346:=Prop
def tw13266694782706201864:=Prop
def tw17292783196525152759:=Prop
def tw14469506868426480240:=Prop
def tw2707509445536049256:=Prop
def tw3989195364520263464:=Prop
def tw13041648784117877269:=Prop
def tw12242166963374166457:=Prop
def tw13483564809431140417:=Prop
def tw18045481140322774307:=Prop
def tw3955575882760226848:=Prop
def tw14780797274889817075:=Prop
def tw9981437584151811007:=Prop
def tw11148714840071925705:=Prop
def tw8832671310029332570:=Prop
def tw8932494965523520426:=Prop
def tw4500216383739671590:=Prop
def tw10280329574067274558:=Prop
def tw1665084660123342863:=Prop
def tw3665752636318542689:=Prop
def tw671248863526860449:=Prop
def tw9157031905597451445:=Prop
def tw910137683030594150:=Prop
def tw7430203411047286762:=Prop
def tw11686641588231702585:=Prop
def tw5244157926629910436:=Prop
def tw8578285552001970056:=Prop
def tw18259449181327972364:=Prop
def tw13196502967415321089:=Prop
def tw8025303035646889491:=Prop
def tw16425992865887222632:=Prop
def tw7855554006083612360:=Prop
def tw5409436745462298082:=Prop
def tw13226546202812497832:=Prop
def tw12813565939557715836:=Prop
def tw5762798654523326219:=Prop
def tw8815213350698491763:=Prop
def tw15969688012704919499:=Prop
def tw7993929892948344173:=Prop
def tw14792870745609488928:=Prop
def tw1187571374377861262:=Prop
def tw8798216600087694989:=Prop
def tw13100347344476630421:=Prop
def tw8572308910157481751:=Prop
def tw15533692207850415072:=Prop
def tw802094169735453201:=Prop
def tw12815260200323985478:=Prop
def tw86495187349558693:=Prop
def tw3170939208094076580:=Prop
def tw11210594521745023533:=Prop
def tw14281888162114663724:=Prop
def tw9226828437301119873:=Prop
def tw4272335132438359304:=Prop
def tw17419580584404849064:=Prop
def tw13527793524550896244:=Prop
def tw4652660271482759271:=Prop
def tw5771780965002503414:=Prop
def tw2868077223478494164:=Prop
def tw7946222542206211092:=Prop
def tw3146199892867579302:=Prop
def tw6424597475603935141:=Prop
def tw13507540204151820043:=Prop
def tw7735793742641153555:=Prop
def tw17235519167602195123:=Prop
def tw1579269452011285781:=Prop
def tw17744125944578022602:=Prop
def tw9258384702592369635:=Prop
def tw8722411278923872489:=Prop
def tw13488711295534798753:=Prop
def tw5224725363564862455:=Prop
def tw5313950537865754781:=Prop
def tw3002149317447476179:=Prop
def tw3452251809684079221:=Prop
def tw18359780112601092133:=Prop
def tw13052955873202958794:=Prop
def tw18430212074227152020:=Prop
def tw11289748954720039371:=Prop
def tw3888061976343455202:=Prop
def tw15423647533377474528:=Prop
def tw6306745366536515060:=Prop
def tw4939107342750292454:=Prop
def tw147186532429086954:=Prop
def tw17987695062272972802:=Prop
def tw13004833859711596883:=Prop
def tw9505623922597239261:=Prop
def tw15704483514994873410:=Prop
def tw4097570293335082355:=Prop
def tw16691172518793390032:=Prop
def tw8618755608876948537:=Prop
def tw11890526202979701937:=Prop
def tw4358772742629656239:=Prop
def tw6412861749672198098:=Prop
def tw393895772666628658:=Prop
def tw7248574187259980416:=Prop
def tw6725944106871019871:=Prop
def tw3737832780602135272:=Prop
def tw387168361903877804:=Prop
def tw16516752859769485588:=Prop
def tw12666245257497878486:=Prop
def tw15994475879276919913:=Prop
def tw6893640861208641498:=Prop
def tw12468375940104024684:=Prop
def tw14428318794655188649:=Prop
def tw6157349882733747459:=Prop
def tw17383247885291980678:=Prop
def tw12119702410552104538:=Prop
def tw13983930950984947466:=Prop
def tw5971659778293692579:=Prop
def tw12470358096876090202:=Prop
def tw9811707916357261503:=Prop
def tw14617807460805420533:=Prop
def tw11420981065454013675:=Prop
def tw593396466725756054:=Prop
def tw17666543236754604886:=Prop
def tw6030970679618534749:=Prop
def tw251489550255509527:=Prop
def tw14830979423876339410:=Prop
def tw532305786151871597:=Prop
def tw11337885311040242863:=Prop
def tw1685102815696940268:=Prop
def tw5271074641629055701:=Prop
def tw16882191293481686454:=Prop
def tw10583838925151730503:=Prop
def tw4772687446028353068:=Prop
def tw16366463875132977326:=Prop
def tw782599629710565815:=Prop
def tw7609204553696113621:=Prop
def tw2907943973230352561:=Prop
def tw14423713706570013872:=Prop
def tw10830239723902614454:=Prop
def tw12533558407976929878:=Prop
def tw8256982727233491310:=Prop
def tw8463980486110666875:=Prop
def tw14995404166116026674:=Prop
def tw11076310236716285902:=Prop
def tw13940898015913209159:=Prop
def tw8759309151991123133:=Prop
def tw1878042678686176493:=Prop
def tw5810185275968492341:=Prop
def tw17353593886023790976:=Prop
def tw11092001966348059504:=Prop
def tw11081133100359375764:=Prop
def tw12477832489194483114:=Prop
def tw262920052948653032:=Prop
def tw9244261686533873912:=Prop
def tw8831827865865736647:=Prop
def tw4570776865344475961:=Prop
def tw1866594814494883324:=Prop
def tw13429760535571167014:=Prop
def tw9420060769992018819:=Prop
def tw17961109313053512162:=Prop
def tw16315799807801757004:=Prop
def tw5342692897878375215:=Prop
def tw5711430765298190635:=Prop
def tw2086264693571795323:=Prop
def tw17788805404273681129:=Prop
def tw14695337927106212255:=Prop
def tw13605103972262947403:=Prop
def tw3749849209142243057:=Prop
def tw7993993496902103309:=Prop
def tw15275668550590609888:=Prop
def tw13767973393625234362:=Prop
def tw5435411428613286353:=Prop
def tw95841955399619735:=Prop
def tw13495179365649077117:=Prop
def tw4021115256168079469:=Prop
def tw16172784995179924211:=Prop
def tw4763091112739427951:=Prop
def tw946648041394604364:=Prop
def tw13599130329166723848:=Prop
def tw310191312368341927:=Prop
def tw3319476713257907169:=Prop
def tw7309727718471811835:=Prop
def tw4821834112764869015:=Prop
def tw11365154745425854748:=Prop
def tw8157076455953297889:=Prop
def tw13378009656256529486:=Prop
def tw1162137484836093765:=Prop
def tw10228092698811401106:=Prop
def tw10128273197381426731:=Prop
def tw3630676715341834162:=Prop
def tw4093740563366251101:=Prop
def tw13080448916100939063:=Prop
def tw494704141470504107:=Prop
def tw2349499962522276627:=Prop
def tw12039879521895705535:=Prop
def tw13898102739130765249:=Prop
def tw6637594905342804495:=Prop
def tw15620541660524815801:=Prop
def tw16062803047832589877:=Prop
def tw18384002403801511917:=Prop
def tw3420064498091314564:=Prop
def tw5375770783162038723:=Prop
def tw2501994824743601786:=Prop
def tw17049330856104133673:=Prop
def tw4453115744245095607:=Prop
def tw15167601286929235854:=Prop
def tw18132120113048234800:=Prop
def tw2372869244546670928:=Prop
def tw15667792759905941759:=Prop
def tw15902705383530959935:=Prop
def tw11794558312114798576:=Prop
def tw1578318845271800030:=Prop
def tw8602377785503932438:=Prop
def tw17004942312468368534:=Prop
def tw2746724574523965366:=Prop
def tw10039330106814065180:=Prop
def tw1984464923690703196:=Prop
def tw1096338932363641358:=Prop
def tw14369666288192833881:=Prop
def tw5796826411663756066:=Prop
def tw7348872757496701069:=Prop
def tw12330681834639284988:=Prop
def tw12628791540684774315:=Prop
def tw8140469231912162710:=Prop
def tw17001796539591727076:=Prop
def tw10424523390098064061:=Prop
def tw8773313661024383991:=Prop
def tw16675454907420043318:=Prop
def tw6473575937880838212:=Prop
def tw2174964568611082239:=Prop
def tw12877977288703377271:=Prop
def tw10574806455505872379:=Prop
def tw1929042341975985721:=Prop
def tw3935522520776663810:=Prop
def tw4984297686952124191:=Prop
def tw16186313955395337621:=Prop
def tw3271997565870496151:=Prop
def tw16988271208524139205:=Prop
def tw15123400231452851888:=Prop
def tw8009458049904810610:=Prop
def tw5691280998020535129:=Prop
def tw17846562960427580921:=Prop
def tw13300274115919001830:=Prop
def tw1048741307713697967:=Prop
def tw11601791702639290946:=Prop
def tw12075313085763938340:=Prop
def tw7889230958096892671:=Prop
def tw1897616925563179205:=Prop
def tw6337569087434888034:=Prop
def tw2664885358067751179:=Prop
def tw7626062882131999831:=Prop
def tw10174063204378164942:=Prop
def tw14930016227562758880:=Prop
def tw406699059640636057:=Prop
def tw7264434792072572614:=Prop
def tw3809106547697849121:=Prop
def tw10992619361067842955:=Prop
def tw17799356413402036259:=Prop
def tw4424076876165241453:=Prop
def tw8047365297098481096:=Prop
def tw12537624319839575925:=Prop
def tw10083805593748103651:=Prop
def tw12413867146382356791:=Prop
def tw16927312402112584598:=Prop
def tw15010502880377377550:=Prop
def tw12732556181201729616:=Prop
def tw12400961635814782807:=Prop
def tw16829604865630583792:=Prop
def tw15357006658559079134:=Prop
def tw5622211912337997033:=Prop
def tw7762810692614162221:=Prop
def tw17918759041951630275:=Prop
def tw3821205649508883806:=Prop
def tw7446220025679658528:=Prop
def tw11437959843233486603:=Prop
def tw17675369998035731626:=Prop
def tw3576890883349958749:=Prop
def tw7769581825416266640:=Prop
def tw893324352516137237:=Prop
def tw1581043991932593664:=Prop
def tw9588042978325527372:=Prop
def tw15348813128573800884:=Prop
def tw15049174863572281142:=Prop
def tw3430305250617631463:=Prop
def tw7635396658464242204:=Prop
def tw1913962603019507583:=Prop
def tw12048422684303530071:=Prop
def tw10266181171338572621:=Prop
def tw12765073891809945807:=Prop
def tw11251394777721388358:=Prop
def tw9775388480593546569:=Prop
def tw3541698484995084597:=Prop
def tw4134984918634402282:=Prop
def tw2321863821282781864:=Prop
def tw15979317067668664020:=Prop
def tw15700283713681259426:=Prop
def tw18255372958163916692:=Prop
def tw7564765220618630449:=Prop
def tw15321899551876743441:=Prop
def tw1727431635666166005:=Prop
def tw882926189895842344:=Prop
def tw13533680581728863305:=Prop
def tw3371892152111552511:=Prop
def tw6841688762543627509:=Prop
def tw11686304854952067985:=Prop
def tw16927007409787378443:=Prop
def tw1687595379465415893:=Prop
def tw15016569910397649359:=Prop
def tw11466238967067186428:=Prop
def tw411547671267381806:=Prop
def tw7598557411535273259:=Prop
def tw2641100267558708703:=Prop
def tw15337257222239096931:=Prop
def tw13643076326571346515:=Prop
def tw16569895761713593782:=Prop
def tw6893150192818760659:=Prop
def tw17484320393812625893:=Prop
def tw11763062886261027962:=Prop
def tw4244749277336980820:=Prop
def tw10094361477585219762:=Prop
def tw14676342698163384054:=Prop
def tw1083959942758566983:=Prop
def tw641857191888477984:=Prop
def tw4915370512024859572:=Prop
def tw5376697160853982695:=Prop
def tw16325616518429649066:=Prop
def tw7996996592260412295:=Prop
def tw2483950000927767675:=Prop
def tw15182050925487929662:=Prop
def tw4791513551969747966:=Prop
def tw2110284229939819332:=Prop
def tw1736173426686518493:=Prop
def tw18433866186131700623:=Prop
def tw3654798047741299027:=Prop
def tw3855634192489951228:=Prop
def tw7829833914257205442:=Prop
def tw9356442361048714054:=Prop
def tw6385609646768451743:=Prop
def tw18226614386259459416:=Prop
def tw2625051918460935507:=Prop
def tw14319622844123271894:=Prop
def tw12869246541478301226:=Prop
def tw8644820693160589460:=Prop
def tw4562905325801466438:=Prop
def tw5045801427172389992:=Prop
def tw464837965554235550:=Prop
def tw8508498297778960460:=Prop
def tw12486602984570329175:=Prop
def tw14273517339018426927:=Prop
def tw2633320026716620639:=Prop
def tw13542729039284643271:=Prop
def tw4976021420497154032:=Prop
def tw17986285179762120498:=Prop
def tw2792302483732914098:=Prop
def tw12571429099953046950:=Prop
def tw2649355076434403328:=Prop
def tw12100768106338472708:=Prop
def tw14929001820525911433:=Prop
def tw14381528904965945234:=Prop
def tw10166855493519576853:=Prop
def tw2531040027717797294:=Prop
def tw12461166079054852570:=Prop
def tw634721611023457007:=Prop
def tw10921934472953181072:=Prop
def tw4307679494091317009:=Prop
def tw8399487068604224910:=Prop
def tw12792415938413659982:=Prop
def tw4744734347707115390:=Prop
def tw7402708061282384163:=Prop
def tw11766354962669929249:=Prop
def tw1602138697817153265:=Prop
def tw9437821175584433873:=Prop
def tw17847592838441629066:=Prop
def tw11208673789551352552:=Prop
def tw18433676724784518978:=Prop
def tw5102552507095007970:=Prop
def tw14864096709381719896:=Prop
def tw2060503057528114261:=Prop
def tw3886452840593174640:=Prop
def tw8218935218868836142:=Prop
def tw14096104213328791766:=Prop
def tw5659461700995820976:=Prop
def tw13225268236519913275:=Prop
def tw3463713557829096342:=Prop
def tw15921343722567376136:=Prop
def tw12753893882661530685:=Prop
def tw10548439133587670053:=Prop
def tw4498882570521065312:=Prop
def tw17828208379258897440:=Prop
def tw4713574005407176220:=Prop
def tw14134431616638215779:=Prop
def tw16313043427481842070:=Prop
def tw10552796284701971962:=Prop
def tw8247398854862616706:=Prop
def tw10958784411202714214:=Prop
def tw6379594095633961060:=Prop
def tw5146520428319384572:=Prop
def tw1256745518210691808:=Prop
def tw11379741981581582060:=Prop
def tw17248559974549043631:=Prop
def tw8789649052163052407:=Prop
def tw3803726572491643774:=Prop
def tw12163828993422400084:=Prop
def tw17155698948597559045:=Prop
def tw13935129645289282276:=Prop
def tw11666399237180929046:=Prop
def tw2132812147340917090:=Prop
def tw18237687652100357144:=Prop
def tw3750845351965123722:=Prop
def tw14963547635579472817:=Prop
def tw7148771986066075853:=Prop
def tw18376542864152341894:=Prop
def tw15042849837037489203:=Prop
def tw422995315247134249:=Prop
def tw2546874346933398900:=Prop
def tw14309725161608195762:=Prop
def tw1297529505892088501:=Prop
def tw16512926923288819979:=Prop
def tw6465161043058500985:=Prop
def tw2176983765616753260:=Prop
def tw13094072850405575685:=Prop
def tw6316090411958510902:=Prop
def tw34880835087114628:=Prop
def tw18056117922396022415:=Prop
def tw9255557012804354193:=Prop
def tw10501970065567051435:=Prop
def tw4125583159370833504:=Prop
def tw18066741827861682508:=Prop
def tw697777527541208076:=Prop
def tw17381482766618487810:=Prop
def tw18359511176708073038:=Prop
def tw335206042453615259:=Prop
def tw14221191628312773201:=Prop
def tw15105312358140021811:=Prop
def tw9999741232035963785:=Prop
def tw11516672572910440998:=Prop
def tw3039264102955726222:=Prop
def tw15696748126628492677:=Prop
def tw1704868444668702112:=Prop
def tw1669515935064114414:=Prop
def tw460247424233737141:=Prop
def tw16631686111229053746:=Prop
def tw16176278926804733345:=Prop
def tw17853491186236408036:=Prop
def tw9157565105380380887:=Prop
def tw1599351339277865301:=Prop
def tw6756365909003314589:=Prop
def tw10666416935419431230:=Prop
end PySem.W.Fast
end
set_option maxRecDepth 100000 in
set_option maxHeartbeats 0 in
theorem PySem.Challenge.cw_backline_k52_whole_told_once_holds : PySem.Challenge.rw_backline_k52_whole_told_once.Holds := by
 w_on;o_law;k_head;(case hw=>w_witness2)
 k_fill
 refine B.walk (l:=PySem.Challenge.rw_backline_k52_whole_told_once) _ rfl rfl (λ w h Y=>W.km_in_of Y) (λ w h Y=>W.km_tabs_of Y) ?F
 case F=>
  intro w mg fa h kin G hmg
  cases hmg.symm.trans (W.mg_of (n:="law") kin G (by k_is))
  clear hmg
  constructor
  case' w=>constructor
  case' h=>refine⟨?T,?e,?u,?b⟩
  case e=>exact rfl
  case u=>exact rfl
  case T=>
   constructor
   all_goals try dsimp only
   try any_goals exact W.mg_none_of kin G (by k_is)
   try any_goals exact W.mg_of kin G (by k_is)
   try any_goals exact⟨_,W.mg_of kin G (by k_is)⟩
   try any_goals exact⟨by k_is,by k_is,by k_is,by k_is⟩
   try any_goals exact⟨by k_is,by k_is,by k_is⟩
   try any_goals exact L2.zq (by k_is) (by k_is) (by k_is)
   try any_goals exact(rfl:FuncData.code _=_)
   try any_goals (unfold B.Dz;exact⟨_,_,_,_,by k_is,by rfl⟩)
   try any_goals first|exact B.bd λ _=>rfl|exact B.bd λ _ _=>rfl|exact B.bd λ _ _ _=>rfl|exact B.bd λ _ _ _ _=>rfl|exact B.bd λ _ _ _ _ _=>rfl
   try any_goals (unfold L2.dr;k_is)
   try any_goals (unfold L2.FC L2.zk;k_exc)
   try any_goals exact⟨by k_is,by k_is,by k_is,by k_is,by k_is,by k_is,by k_is⟩
   try any_goals first|kit_is|k_is
   all_goals first|rfl|decide|kernel_rfl
  case b=>exact λ s v=>.of_eq rfl
