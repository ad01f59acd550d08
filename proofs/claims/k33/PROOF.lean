import PyProof.Rows.All
import Wide.All
import OpenK.AllK
import Wide.FinOn
import Lean
import PyProof.EqAt
import PyProof.EqKinds
import PyProof.TupleCall
import KE.KNest
import KE.KNestM
import KE.KIntText
import KE.KDictOf
import KE.KPairComp
import KE.KLam
import KE.KSortTup
import PySem.Challenge.RW_backline_k33_whole_falls_together
set_option Elab.async false
set_option linter.all false
set_option maxRecDepth 100000
section
open PySem PySem.W PySem.Spec PyProof.Rows PySem.Calls
noncomputable abbrev Bx:=@wpAny_bind
noncomputable abbrev Bz:=@List.getElem?_eq_getElem
noncomputable abbrev BA:=@wpAny_pure
noncomputable abbrev BB:=@List.length_map
noncomputable abbrev BC:=@List.getElem?_map
noncomputable abbrev BD:=@List.mem_singleton
noncomputable abbrev BE:=@List.getElem?_eq_some_iff
noncomputable abbrev BF:=@List.mem_cons
noncomputable abbrev BG:=@List.mem_append_right
noncomputable abbrev BH:=@List.mem_append
noncomputable abbrev BI:=@if_neg
noncomputable abbrev BJ:=@List.mem_of_getElem?
noncomputable abbrev BL:=@List.length_append
noncomputable abbrev BM:=@List.not_mem_nil
noncomputable abbrev BN:=@if_pos
noncomputable abbrev BO:=@wpS_bind
noncomputable abbrev BP:=@Array.length_toList
noncomputable abbrev BQ:=@List.mem_cons_of_mem
noncomputable abbrev BR:=@List.mem_cons_self
noncomputable abbrev BS:=@List.mem_append_left
noncomputable abbrev BU:=@Nat.ne_of_lt
noncomputable abbrev BV:=@List.mem_map
noncomputable abbrev BW:=@Nat.lt_of_lt_of_le
noncomputable abbrev BX:=@List.mem_map_of_mem
noncomputable abbrev BZ:=@wpS_pure
noncomputable abbrev B0:=@Bool.false_eq_true
noncomputable abbrev B2:=@List.getElem_of_mem
noncomputable abbrev B3:=@List.length_singleton
noncomputable abbrev B4:=@Bool.false_ne_true
noncomputable abbrev B5:=@List.getElem?_append_right
noncomputable abbrev B6:=@Nat.le_trans
noncomputable abbrev B7:=@List.map_append
noncomputable abbrev B8:=@List.getElem?_set_self
noncomputable abbrev B9:=@List.size_toArray
noncomputable abbrev Ca:=@or_false
noncomputable abbrev Cb:=@Array.getElem?_eq_getElem
noncomputable abbrev Cc:=@PySem.F.plainAttrs_list
noncomputable abbrev Cd:=@Int.eq_ofNat_of_zero_le
noncomputable abbrev Ce:=@List.map_cons
noncomputable abbrev Cf:=@Nat.zero_le
noncomputable abbrev Cg:=@Int.toNat_natCast
noncomputable abbrev Ci:=@List.length_cons
noncomputable abbrev Cj:=@Array.getElem?_toList
noncomputable abbrev Ck:=@PySem.F.type_list_append
noncomputable abbrev Cm:=@PySem.F.slot_list_append
noncomputable abbrev Cn:=@List.getElem?_append_left
noncomputable abbrev Co:=@List.pairwise_append
noncomputable abbrev Cp:=@List.getElem?_set_ne
noncomputable abbrev Cq:=@List.nodup_append
noncomputable abbrev Cr:=@List.map_congr_left
noncomputable abbrev Cs:=@List.map_map
noncomputable abbrev Cu:=@decide_eq_true
noncomputable abbrev Cv:=@List.getElem?_eq_none
noncomputable abbrev Cw:=@wpAny_mono
noncomputable abbrev Cy:=@List.mem_filter
noncomputable abbrev Cz:=@Int.emod_lt_of_pos
noncomputable abbrev CA:=@PySem.mem_of_lookup
noncomputable abbrev CB:=@List.length_take
noncomputable abbrev CC:=@List.nodup_cons
noncomputable abbrev CD:=@wpAny_holding
noncomputable abbrev CF:=@Array.toList_append
noncomputable abbrev CG:=@Bool.and_eq_true
noncomputable abbrev CH:=@wpS_forRange
noncomputable abbrev CI:=@List.append_assoc
noncomputable abbrev CJ:=@if_false
noncomputable abbrev CK:=@List.length_replicate
noncomputable abbrev CL:=@decide_eq_false
noncomputable abbrev CM:=@Int.emod_nonneg
noncomputable abbrev CN:=@of_decide_eq_true
noncomputable abbrev CP:=@codeAny_builtin
noncomputable abbrev CQ:=@Nat.lt_of_le_of_lt
noncomputable abbrev CS:=@Int.le_refl
noncomputable abbrev CU:=@wpAny_call_entry
noncomputable abbrev CV:=@Nat.sub_self
noncomputable abbrev CW:=@Array.getElem?_eq_none
noncomputable abbrev CY:=@wpAny_of_eq
noncomputable abbrev CZ:=@wpAny_dictEntries
noncomputable abbrev C0:=@decide_eq_true_eq
noncomputable abbrev C1:=@List.pairwise_map
noncomputable abbrev C2:=@List.getElem?_inj
noncomputable abbrev C3:=@PySem.W.kia_one
noncomputable abbrev C4:=@Nat.zero_add
noncomputable abbrev C5:=@Nat.ne_of_gt
noncomputable abbrev C6:=@List.mem_iff_getElem
noncomputable abbrev C7:=@Array.toList_extract
noncomputable abbrev C8:=@Nat.lt_irrefl
noncomputable abbrev C9:=@wpAny_truthy_bool
noncomputable abbrev Dc:=@beq_iff_eq
noncomputable abbrev Dd:=@Nat.lt_succ_of_lt
noncomputable abbrev Df:=@Option.map_some
noncomputable abbrev Dg:=@List.pairwise_iff_getElem
noncomputable abbrev Dh:=@List.take_append_drop
noncomputable abbrev Dj:=@List.length_filter_le
noncomputable abbrev Dk:=@wpAny_rule
noncomputable abbrev Dl:=@List.lookup_cons
noncomputable abbrev Dm:=@plainId_quiet
noncomputable abbrev Dn:=@wpS_mono
noncomputable abbrev Dp:=@wpAny_newObj_type
noncomputable abbrev Dq:=@List.take_add_one
noncomputable abbrev Dr:=@List.append_nil
noncomputable abbrev Ds:=@beq_eq_false_iff_ne
noncomputable abbrev Dt:=@List.take_of_length_le
noncomputable abbrev Du:=@Bool.not_true
noncomputable abbrev Dv:=@wpAny_isInstance
noncomputable abbrev Dw:=@wpAny_askSetting
noncomputable abbrev Dx:=@List.mem_flatMap
noncomputable abbrev Dy:=@List.all_eq_true
noncomputable abbrev Dz:=@List.mem_range
noncomputable abbrev DA:=@Array.getElem?_eq_some_iff
noncomputable abbrev DB:=@List.perm_append_comm
noncomputable abbrev DC:=@size_of_entries
noncomputable abbrev DE:=@sizeLine_eq
noncomputable abbrev DF:=@Nat.le_of_lt
noncomputable abbrev DG:=@List.ext_getElem?
noncomputable abbrev DH:=@Array.toList_push
noncomputable abbrev DJ:=@wpS_modify
noncomputable abbrev DK:=@if_true
noncomputable abbrev DL:=@wpAny_eqBool_int
noncomputable abbrev DM:=@decide_eq_decide
noncomputable abbrev DN:=@List.filter_cons
noncomputable abbrev DP:=@wpAny_typeNameOfWhole_keyiter
noncomputable abbrev DQ:=@tupleKind_room_in1
noncomputable abbrev DR:=@List.pairwise_cons
noncomputable abbrev DS:=@wpAny_updateSeq
noncomputable abbrev DT:=@wpAny_passesOwn
noncomputable abbrev DU:=@List.length_set
noncomputable abbrev DV:=@Bool.eq_iff_iff
noncomputable abbrev DW:=@not_or
noncomputable abbrev DX:=@PyProof.Rows.callWith_type1
noncomputable abbrev DY:=@Nat.lt_trichotomy
noncomputable abbrev DZ:=@List.reverse_perm
noncomputable abbrev D0:=@Array.getD_eq_getD_getElem?
noncomputable abbrev D1:=@Nat.le_succ
noncomputable abbrev D2:=@List.extract_eq_drop_take'
noncomputable abbrev D3:=@Array.perm_iff_toList_perm
noncomputable abbrev D4:=@Nat.lt_succ_self
noncomputable abbrev D5:=@PySem.W.plainGet_of
noncomputable abbrev D6:=@PyProof.Rows.F.plain_set_update_loop
noncomputable abbrev D7:=@wpAny_typeNameOf_keyiter
noncomputable abbrev D8:=@wpAny_attempt
noncomputable abbrev D9:=@wpS_get
noncomputable abbrev Ea:=@List.forIn_cons
noncomputable abbrev Eb:=@List.find?_cons
noncomputable abbrev Ec:=@wpAny_Call_Name_kw
noncomputable abbrev Ed:=@List.map_singleton
noncomputable abbrev Ee:=@wpAny_callSpecial?_slot
noncomputable abbrev Ef:=@decide_true
noncomputable abbrev Eg:=@decide_eq_false_iff_not
noncomputable abbrev Eh:=@List.getElem?_replicate
noncomputable abbrev Ei:=@List.filter_cons_of_pos
noncomputable abbrev Ej:=@List.filter_cons_of_neg
noncomputable abbrev Ek:=@Nat.le_of_eq
noncomputable abbrev El:=@List.nodup_nil
noncomputable abbrev Em:=@List.length_range
noncomputable abbrev En:=@List.drop_sublist
noncomputable abbrev Eo:=@Bool.not_false
noncomputable abbrev Ep:=@Array.size_map
noncomputable abbrev Er:=@wpAny_notOrdered_dict
noncomputable abbrev Es:=@List.mem_iff_getElem?
noncomputable abbrev Et:=@List.Perm.append_left
noncomputable abbrev Eu:=@List.take_length
noncomputable abbrev Ew:=@List.Nodup.length_le_of_subset
noncomputable abbrev Ex:=@List.eq_nil_of_length_eq_zero
noncomputable abbrev Ey:=@Int.lt_iff_le_and_ne
noncomputable abbrev Ez:=@Array.toList_reverse
noncomputable abbrev EA:=@wpAny_specialOf
noncomputable abbrev EB:=@List.of_mem_zip
noncomputable abbrev EC:=@List.filterMap_cons
noncomputable abbrev ED:=@decide_false
noncomputable abbrev EF:=@codeAny_mono
noncomputable abbrev EG:=@Nat.add_zero
noncomputable abbrev EH:=@List.all_map
noncomputable abbrev EI:=@wpAny_setField
noncomputable abbrev EJ:=@wpAny_call
noncomputable abbrev EK:=@decide_eq_true_iff
noncomputable abbrev EL:=@PySem.W.kla_fn
noncomputable abbrev EM:=@PySem.W.callWith_K
noncomputable abbrev EN:=@List.getD_eq_getElem?_getD
noncomputable abbrev EO:=@List.filter_append
noncomputable abbrev ER:=@List.mem_or_eq_of_mem_set
noncomputable abbrev ES:=@List.drop_eq_getElem_cons
noncomputable abbrev ET:=@not_false_eq_true
noncomputable abbrev EU:=@Nat.lt_of_succ_lt
noncomputable abbrev EV:=@wpAny_newList
noncomputable abbrev EW:=@List.getElem?_take_of_lt
noncomputable abbrev EX:=@List.any_cons
noncomputable abbrev EY:=@List.all_cons
noncomputable abbrev EZ:=@wpS_lift
noncomputable abbrev E0:=@wpAny_execs_cons
noncomputable abbrev E1:=@beq_self_eq_true
noncomputable abbrev E2:=@PySem.F.plainAttrs_dict
noncomputable abbrev E3:=@Nat.succ_le_succ
noncomputable abbrev E4:=@Nat.lt_of_not_le
noncomputable abbrev E5:=@List.length_drop
noncomputable abbrev E6:=@wpAny_typeOf
noncomputable abbrev E7:=@PySem.W.cellsFrom_some
noncomputable abbrev E8:=@Option.map_eq_some_iff
noncomputable abbrev E9:=@Nat.lt_trans
noncomputable abbrev Fb:=@List.filter_eq_nil_iff
noncomputable abbrev Fc:=@Int.zero_add
noncomputable abbrev Fd:=@wpAny_execs_nil
noncomputable abbrev Fe:=@wpAny_dictEpoch
noncomputable abbrev Ff:=@List.range_succ
noncomputable abbrev Fg:=@PySem.W.methodCall_KW
noncomputable abbrev Fh:=@PySem.F.slot_dict_get
noncomputable abbrev Fi:=@Array.getElem_extract
noncomputable abbrev Fj:=@wpAny_tryCatch
noncomputable abbrev Fl:=@wpAny_pyIter_keyiter
noncomputable abbrev Fm:=@wpAny_letGo
noncomputable abbrev Fn:=@wpAny_fieldsOf
noncomputable abbrev Fo:=@codeAny_call_builtin
noncomputable abbrev Fp:=@List.reverse_reverse
noncomputable abbrev Fq:=@List.reverse_append
noncomputable abbrev Fs:=@Nat.mod_lt
noncomputable abbrev Ft:=@Nat.lt_of_le_of_ne
noncomputable abbrev Fu:=@List.zip_cons_cons
noncomputable abbrev Fv:=@List.mem_filterMap
noncomputable abbrev Fw:=@List.lookup_append
noncomputable abbrev Fx:=@Int.lt_of_le_of_lt
noncomputable abbrev Fy:=@wpAny_storeSet_of
noncomputable abbrev Fz:=@wpAny_pyIter_slot
noncomputable abbrev FA:=@wpAny_pyIter_list
noncomputable abbrev FC:=@sub_set_self
noncomputable abbrev FD:=@pairsOf_size
noncomputable abbrev FE:=@call_meetsIn
noncomputable abbrev FF:=@bne_self_eq_false
noncomputable abbrev FG:=@List.take_sublist
noncomputable abbrev FH:=@List.map_nil
noncomputable abbrev FI:=@Int.lt_trans
noncomputable abbrev FJ:=@PySem.W.makes_of
noncomputable abbrev FK:=@Nat.le_add_right
noncomputable abbrev FL:=@List.append_inj'
noncomputable abbrev FN:=@Array.toList_map
noncomputable abbrev FO:=@List.map_id
noncomputable abbrev FP:=@List.sum_append
noncomputable abbrev FQ:=@Bool.or_eq_true
noncomputable abbrev FR:=@wpAny_seqItems
noncomputable abbrev FT:=@wpAny_runValue
noncomputable abbrev FU:=@isSubtype_type
noncomputable abbrev FV:=@entryFor_alias
noncomputable abbrev FW:=@listUpdate_at
end
namespace L2
open PySem PySem.Spec PyProof.Rows
noncomputable abbrev Key:=Sum Int Str
noncomputable def jT:Key->Value->Bool
 | .inl k,v=>Value.isInt k v
 | .inr x,v=>Value.isStrOf x v
noncomputable def Au (w:World):Key->Int
 | .inl k=>hashInt k
 | .inr x=>hashStr w x
theorem bT:∀ {k:Key}{v:Value},jT k v=true->(∃ i t,k=Sum.inl i/\v=Value.int i t)\/(∃ x t,k=Sum.inr x/\v=Value.str x t)
 | .inl i,v,h=>by
  obtain⟨t,e⟩:=Value.isInt_shape (k:=i) (v:=v) h
  exact .inl ⟨i,t,rfl,e⟩
 | .inr x,v,h=>by
  obtain⟨t,e⟩:=Value.isStrOf_shape (x:=x) (v:=v) h
  exact .inr ⟨x,t,rfl,e⟩
theorem pR (i) (t):jT (.inl i) (.int i t)=true:=by simp[jT,Value.isInt]
theorem pF (x) (t):jT (.inr x) (.str x t)=true:=by simp[jT,Value.isStrOf]
theorem wb (a b):decide ((Sum.inl a:Key)=Sum.inl b)=(a == b):=by
 by_cases e:a=b
 ·subst e;simp
 ·have h:¬ (Sum.inl a:Key)=Sum.inl b:=λ q=>e (Sum.inl.inj q)
  rw[CL h]
  exact(Ds.mpr e).symm
theorem wz (a b):decide ((Sum.inr a:Key)=Sum.inr b)=decide (a=b):=by
 by_cases e:a=b
 ·subst e;simp
 ·have h:¬ (Sum.inr a:Key)=Sum.inr b:=λ q=>e (Sum.inr.inj q)
  rw[CL h,CL e]
theorem vS (a) (b):decide ((Sum.inl a:Key)=Sum.inr b)=false:=CL (λ q=>nomatch q)
theorem vE (a) (b):decide ((Sum.inr a:Key)=Sum.inl b)=false:=CL (λ q=>nomatch q)
noncomputable def bO (prog:Program) (w:World):PySem.KeyKind prog w Key where
 is:=jT
 hash:=Au w
 inj:=λ v a b ha hb=>by
  rcases bT ha with ⟨i,t,rfl,rfl⟩|⟨x,t,rfl,rfl⟩
  ·rcases bT hb with ⟨j,u,rfl,e⟩|⟨y,u,rfl,e⟩
   ·injection e with e1 _;rw[e1]
   ·exact nomatch e
  ·rcases bT hb with ⟨j,u,rfl,e⟩|⟨y,u,rfl,e⟩
   ·exact nomatch e
   ·injection e with e1 _;rw[e1]
 byValue:=λ k v h=>by
  rcases bT h with ⟨i,t,rfl,rfl⟩|⟨x,t,rfl,rfl⟩<;>rfl
 pyHash:=λ hv h=>by
  rcases bT hv with ⟨i,t,rfl,rfl⟩|⟨x,t,rfl,rfl⟩
  ·exact wpAny_pyHash_int h
  ·exact wpAny_pyHash_str h
 eqBool:=λ hu hv h=>by
  rcases bT hu with ⟨i,t,rfl,rfl⟩|⟨x,t,rfl,rfl⟩
  ·rcases bT hv with ⟨j,u,rfl,rfl⟩|⟨y,u,rfl,rfl⟩
   ·rw[wb] at h;exact DL h
   ·rw[vS] at h;exact SeqAt.EqAt.int_str i t y u _ _ _ _ h
  ·rcases bT hv with ⟨j,u,rfl,rfl⟩|⟨y,u,rfl,rfl⟩
   ·rw[vE] at h;exact SeqAt.EqAt.str_int x t j u _ _ _ _ h
   ·rw[wz] at h;exact wpAny_eqBool_str h
 «strs»:=λ k x t v h=>by
  rcases bT h with ⟨i,u,rfl,e⟩|⟨y,u,rfl,e⟩
  ·exact nomatch e
  ·injection e with e1 _
   subst e1
   cases v<;>rfl
theorem lj (prog) (w) (i) (t):(bO prog w).is (.inl i) (.int i t)=true:=pR i t
theorem mi (prog) (w) (x) (t):(bO prog w).is (.inr x) (.str x t)=true:=pF x t
inductive V where
 | non|bl (b:Bool)|int (i:Int)|str (x:Str)|byt (b:Array UInt8)|flt (b:UInt64)|ref (a:Addr)|ty (n:String)
 deriving DecidableEq
noncomputable def RelV:V->Value->Prop
 | .non,u=>u=Value.none
 | .bl b,u=>u=Value.bool b
 | .int i,u=>∃ t,u=Value.int i t
 | .str x,u=>∃ t,u=Value.str x t
 | .byt b,u=>∃ t,u=Value.bytes b t
 | .flt b,u=>∃ t,u=Value.float b t
 | .ref a,u=>u=Value.ref a
 | .ty n,u=>u=Value.type n
noncomputable abbrev Vals:List V->List Value->Prop:=Paired RelV
theorem Vals.length (r:Vals xs us):xs.length=us.length:=Paired.length r
theorem Vals.get:∀ {xs:List V}{us:List Value}{i:Nat}{x:V},Vals xs us->xs[i]? = some x->∃ u,us[i]? = some u/\RelV x u
 | _,_,_,_,.nil,e=>by simp at e
 | _,_,0,_,.cons r _,e=>by simp at e;subst e;exact⟨_,rfl,r⟩
 | _,_,i+1,x,.cons _ t,e=>by
  obtain⟨u,a,b⟩:=Vals.get (i:=i) (x:=x) t (by simpa using e)
  exact⟨u,by simpa using a,b⟩
theorem Vals.append:∀ {xs ys:List V}{us a:List Value},Vals xs us->Vals ys a->Vals (xs++ys) (us++a)
 | _,_,_,_,.nil,s=>s
 | _,_,_,_,.cons r t,s=>.cons r (Vals.append t s)
theorem Vals.take:∀ {xs:List V}{us:List Value}(n:Nat),Vals xs us->Vals (xs.take n) (us.take n)
 | _,_,0,_=>.nil
 | _,_,_+1,.nil=>.nil
 | _,_,n+1,.cons r t=>.cons r (Vals.take n t)
theorem Vals.drop:∀ {xs:List V}{us:List Value}(n:Nat),Vals xs us->Vals (xs.drop n) (us.drop n)
 | _,_,0,r=>r
 | _,_,_+1,.nil=>.nil
 | _,_,n+1,.cons _ t=>Vals.drop n t
noncomputable def eu:Option V->Option Value->Prop
 | some v,some u=>RelV v u
 | none,none=>True
 | _,_=>False
noncomputable def KV {κ:Type}:List (κ×V)->List (κ×Value)->Prop:=Paired λ(p:κ×V) (q:κ×Value)=>p.1=q.1/\RelV p.2 q.2
noncomputable def kV:Key->V
 | .inl i=>.int i
 | .inr x=>.str x
inductive HO where
 | lst (xs:List V)
 | tup (xs:List V)
 | dK (kvs:List (Key×V))|dT (kvs:List (List Key×V))
 | set (S:Int->Bool) (n:Nat)
 | ins (C dx:Addr) (fs:List (Str×V))
 | own (x:Addr)
 | xd (fs:List (Str×V))
 | met (f x:Addr)
 | rng (lo hi:Int)
 | frz (o:Obj) (u:HO)
 | tbl (ps:Array Value)
 | ext (φ:Heap->Prop)
noncomputable abbrev Hp:=Addr->Option HO
noncomputable def upd (H:Hp) (a:Addr) (o:HO):Hp:=λ b=>if b=a then some o else H b
theorem aD:upd H a o a=some o:=by unfold upd;rw[BN rfl]
theorem aE (h:b≠a):upd H a o b=H b:=by unfold upd;rw[BI h]
theorem f9:upd (upd H a o) a u=upd H a u:=by
 funext b;unfold upd;split<;>rfl
theorem dG {H:Hp}{a b:Addr}{o u:HO}(h:H a=some o) (h':H b=some u) (d:o≠u):a≠b:=by
 intro e;subst e;rw[h] at h';exact d (Option.some.inj h')
theorem aF {H:Hp}{a b:Addr}{o:HO}(h:H a=some o) (h':H b=none):a≠b:=by
 intro e;subst e;rw[h] at h';cases h'
section
variable (P:Program) (w:World)
noncomputable def bo (H:Hp) (h:Heap) (a:Addr):HO->Prop
 | .lst xs=>xs.length<=sizeLine/\∃ (its:List Value) (n:Nat),Vals xs its/\h.get? a=some { cls:=.type "list",data:=.seq its.toArray n }
 | .tup xs=>xs.length<=sizeLine/\∃ its:List Value,Vals xs its/\IsTup h a its.toArray
 | .dK kvs=>kvs.length<=sizeLine/\(a == sysModules)=false/\∃ vs,KV kvs vs/\h.DictOf (bO P w) a vs
 | .dT kvs=>kvs.length<=sizeLine/\(a == sysModules)=false/\∃ xs:List (List Key×Addr×Value),
   Paired (λ(p:List Key×V) (q:List Key×Addr×Value)=>p.1=q.1/\H q.2.1=some (.tup (p.1.map kV))/\RelV p.2 q.2.2) kvs xs /\
   ∃ o es ep,h.get? a=some o/\o.ExactDict/\o.data=.dict es ep/\es.toList=xs.map (entryOfKey (tupleKind (bO P w)))/\(xs.map (·.1)).Nodup
 | .set S n=>h.SetOf (intKind P w) a S n
 | .ins C dx fs=>H dx=some (.own a)/\fs.length<=1000/\dx≠a/\h.get? a=some (PySem.W.instObj C dx) /\
   ∃ mA,h.Ns1 dx mA/\(∀ f,eu (fs.lookup f) (mA f))/\PySem.Within mA (fs.map (·.1))
 | .own _=>∃ o,h.get? a=some o
 | .xd fs=>∃ mA,h.Ns1 a mA/\∀ f,eu (fs.lookup f) (mA f)
 | .rng lo hi=>∃ t u v,h.get? a=some { cls:=.type "range",data:=.fields #[.int lo t,.int hi u,.int 1 v] }
 | .frz o u=>h.get? a=some o/\bo H h a u
 | .tbl ps=>h.get? a=some { cls:=.none,data:=.fields ps }
 | .met f x=>h.get? a=some (PySem.W.methodObj (.ref f) (.ref x))
 | .ext φ=>φ h/\(∃ o,h.get? a=some o)/\∀ h1 h2:Heap,φ h1->(∀ o,h1.get? a=some o->h2.get? a=some o)->φ h2
noncomputable def HOk (H:Hp) (h:Heap):Prop:=∀ a o,H a=some o->bo P w H h a o
end
section
variable {P:Program}{w:World}{H H':Hp}{h h':Heap}{a:Addr}{o:HO}
theorem bo.lt (x:bo P w H h a o):a<h.objs.size:=by
 cases o with
 | lst xs=>obtain⟨_,_,_,_,e⟩:=x;exact Heap.lt_size e
 | tup xs=>obtain⟨_,_,_,p⟩:=x;exact p.lt
 | dK kvs=>obtain⟨_,_,_,_,o,_,_,e,_⟩:=x;exact Heap.lt_size e
 | dT kvs=>obtain⟨_,_,_,_,o,_,_,e,_⟩:=x;exact Heap.lt_size e
 | set S n=>obtain⟨o,_,_,_,e,_⟩:=x;exact Heap.lt_size e
 | ins C dx fs=>obtain⟨_,_,_,e,_⟩:=x;exact Heap.lt_size e
 | own y=>obtain⟨_,e⟩:=x;exact Heap.lt_size e
 | xd fs=>obtain⟨_,⟨_,_,_,e,_⟩,_⟩:=x;exact Heap.lt_size e
 | rng lo hi=>obtain⟨_,_,_,e⟩:=x;exact Heap.lt_size e
 | frz ob u=>obtain⟨e,_⟩:=x;exact Heap.lt_size e
 | tbl ps=>exact Heap.lt_size (show h.get? a=some _ from x)
 | met f y=>exact Heap.lt_size (show h.get? a=some _ from x)
 | ext φ=>obtain⟨_,⟨_,e⟩,_⟩:=x;exact Heap.lt_size e
theorem Paired.vC:∀ {c:List α}{d:List β},Paired F c d->(∀ a b,F a b->G a b)->Paired G c d
 | _,_,.nil,_=>.nil
 | _,_,.cons r t,f=>.cons (f _ _ r) (Paired.vC t f)
theorem bo.iT (x:bo P w H h a o) (k:∀ b u,(b=a\/H b=some (.own a))->h.get? b=some u->h'.get? b=some u)
  (ho:∀ b,H b=some (.own a)->H' b=some (.own a)) (ht:∀ b xs,H b=some (.tup xs)->H' b=some (.tup xs)):bo P w H' h' a o:=by
 induction o with
 | lst xs=>obtain⟨z,its,n,r,e⟩:=x;exact⟨z,its,n,r,k _ _ (.inl rfl) e⟩
 | tup xs=>obtain⟨z,its,r,ob,e,c⟩:=x;exact⟨z,its,r,ob,k _ _ (.inl rfl) e,c⟩
 | dK kvs=>obtain⟨z,y,vs,r,ob,es,ep,e,c⟩:=x;exact⟨z,y,vs,r,ob,es,ep,k _ _ (.inl rfl) e,c⟩
 | dT kvs=>
  obtain⟨z,y,xs,r,ob,es,ep,e,c⟩:=x
  exact⟨z,y,xs,Paired.vC r λ p q z=>⟨z.1,ht _ _ z.2.1,z.2.2⟩,ob,es,ep,k _ _ (.inl rfl) e,c⟩
 | set S n=>obtain⟨ob,es,ep,t,e,c⟩:=x;exact⟨ob,es,ep,t,k _ _ (.inl rfl) e,c⟩
 | ins C dx fs=>
  obtain⟨d,z,ne,e,mA,⟨od,es,ep,e2,c⟩,r⟩:=x
  exact⟨ho _ d,z,ne,k _ _ (.inl rfl) e,mA,⟨od,es,ep,k _ _ (.inr d) e2,c⟩,r⟩
 | own y=>obtain⟨ob,e⟩:=x;exact⟨ob,k _ _ (.inl rfl) e⟩
 | xd fs=>obtain⟨mA,⟨od,es,ep,e,c⟩,r⟩:=x;exact⟨mA,⟨od,es,ep,k _ _ (.inl rfl) e,c⟩,r⟩
 | rng lo hi=>obtain⟨t,u,v,e⟩:=x;exact⟨t,u,v,k _ _ (.inl rfl) e⟩
 | frz ob u ih=>obtain⟨e,q⟩:=x;exact⟨k _ _ (.inl rfl) e,ih q⟩
 | tbl ps=>
  have e:h.get? a=some { cls:=.none,data:=.fields ps }:=x
  show h'.get? a=some { cls:=.none,data:=.fields ps }
  exact k a _ (.inl rfl) e
 | met f y=>
  have e:h.get? a=some (PySem.W.methodObj (.ref f) (.ref y)):=x
  show h'.get? a=some (PySem.W.methodObj (.ref f) (.ref y))
  exact k a _ (.inl rfl) e
 | ext φ=>obtain⟨p,⟨o,e⟩,st⟩:=x;exact⟨st _ _ p λ o q=>k _ _ (.inl rfl) q,⟨o,k _ _ (.inl rfl) e⟩,st⟩
theorem HOk.lt (x:HOk P w H h) (e:H a=some o):a<h.objs.size:=(x a o e).lt
theorem HOk.fresh (x:HOk P w H h) (e:h.objs.size<=a):H a=none:=by
 cases q:H a with
 | none=>rfl
 | some u=>exact absurd (BW (x.lt q) e) (C8 _)
theorem HOk.kept (x:HOk P w H h) (k:∀ b u,h.get? b=some u->h'.get? b=some u):HOk P w H h':=λ a o e=>
 (x a o e).iT (λ b u _ q=>k b u q) (λ _ q=>q) λ _ _ q=>q
theorem HOk.laid (x:HOk P w H h) (k:∀ b u,h.get? b=some u->h'.get? b=some u) (i:h.objs.size<=a) (d:bo P w (upd H a o) h' a o):HOk P w (upd H a o) h':=λ b u e=>by
 have g:=x.fresh i
 by_cases f:b=a
 ·subst f;rw[aD] at e;cases e;exact d
 ·rw[aE f] at e
  exact(x b u e).iT (λ c v _ q=>k c v q) (λ c q=>by rw[aE (aF q g)];exact q) λ c j q=>by rw[aE (aF q g)];exact q
end
noncomputable def Rd (H:Hp) (a:Addr) (u:HO):Prop:=H a=some u\/∃ o,H a=some (.frz o u)
theorem Rd.ok (r:Rd H a u) (x:HOk P w H h):bo P w H h a u:=by
 rcases r with r|⟨o,r⟩
 ·exact x a u r
 ·obtain⟨_,q⟩:=x a _ r
  exact q
noncomputable def Mut:Option HO->Prop
 | some (.lst _)=>True
 | some (.dK _)=>True
 | some (.dT _)=>True
 | some (.set _ _)=>True
 | some (.ins _ _ _)=>True
 | some (.ext _)=>True
 | _=>False
section
variable {P:Program}{w:World}{H:Hp}{h h':Heap}{x e:Addr}{o':HO}
theorem HOk.write (B:HOk P w H h) (l:Mut (H x)) (s:e=x\/H e=some (.own x)) (k:∀ b u,b≠e->h.get? b=some u->h'.get? b=some u) (n:∃ u,h'.get? e=some u)
  (p:bo P w (upd H x o') h' x o'):HOk P w (upd H x o') h':=λ b u q=>by
 have f:∀ c y,H c=some (.own y)->c≠x:=λ c y r z=>by subst z;rw[r] at l;exact l
 have g:∀ c m,H c=some (.tup m)->c≠x:=λ c m r z=>by subst z;rw[r] at l;exact l
 by_cases i:b=x
 ·subst i;rw[aD] at q;cases q;exact p
 ·rw[aE i] at q
  by_cases d:b=e
  ·have t:H b=some (.own x):=by
    rcases s with z|z
    ·exact absurd (d.trans z) i
    ·rw[d];exact z
   rw[q] at t;cases t
   obtain⟨v,A⟩:=n
   exact⟨v,by rw[d];exact A⟩
  ·refine(B b u q).iT (λ c v j r=>k c v ?_ r) (λ c r=>by rw[aE (f c b r)];exact r) λ c m r=>by rw[aE (g c m r)];exact r
   rcases j with rfl|j
   ·exact d
   ·rintro rfl
    rcases s with z|z
    ·exact f c b j z
    ·rw[j] at z;cases z;exact i rfl
end
structure Un (fs ex:List Addr) (H H':Hp) (h h':Heap):Prop where
 keep:∀ b o,h.get? b=some o->H b=none->b∉fs->b∉ex->h'.get? b=some o
 slot:∀ b o,h.get? b=some o->H b=none->b∈fs->b∉ex->∃ sl,h'.get? b=some { o with slots:=sl }
 free:∀ b o,h.get? b=some o->H b=none->b∉ex->H' b=none
 there:∀ b o,h.get? b=some o->b∉ex->∃ o',h'.get? b=some o'
 tups:∀ b xs,H b=some (.tup xs)->H' b=some (.tup xs)
 frzs:∀ b o u,H b=some (.frz o u)->H' b=some (.frz o u)
 tbls:∀ b ps,H b=some (.tbl ps)->∃ more,H' b=some (.tbl (ps++more))
section
variable {fs fs' ex ex':List Addr}{H H1 H2:Hp}{h h1 h2 h':Heap}{a x e:Addr}{o:HO}
theorem Un.any (u:Un fs ex H H1 h h1) (q:h.get? b=some ob) (n:H b=none) (d:b∉ex):∃ f,h1.get? b=some { ob with slots:=f }:=by
 by_cases c:b∈fs
 ·exact u.slot b ob q n c d
 ·exact⟨ob.slots,u.keep b ob q n c d⟩
theorem Un.kept (k:∀ b u,h.get? b=some u->h'.get? b=some u):Un fs ex H H h h':=
 ⟨λ b c q _ _ _=>k b c q,λ b c q _ _ _=>⟨c.slots,k b c q⟩,λ _ _ _ n _=>n,λ b c q _=>⟨c,k b c q⟩,λ _ _ q=>q,λ _ _ _ q=>q,λ _ d q=>⟨#[],by rw[q];simp⟩⟩
theorem Un.refl:Un fs ex H H h h:=Un.kept λ _ _ q=>q
theorem Un.laid (k:∀ b u,h.get? b=some u->h'.get? b=some u) (d:h.objs.size<=a) (c:H a=none):Un fs ex H (upd H a o) h h' where
 keep:=λ b u q _ _ _=>k b u q
 slot:=λ b u q _ _ _=>⟨u.slots,k b u q⟩
 free:=λ b u q n _=>by rw[aE (BU (BW (Heap.lt_size q) d))];exact n
 there:=λ b u q _=>⟨u,k b u q⟩
 tups:=λ b f q=>by rw[aE (aF q c)];exact q
 frzs:=λ b u f q=>by rw[aE (aF q c)];exact q
 tbls:=λ b g q=>⟨#[],by rw[aE (aF q c),q];simp⟩
theorem Un.write (d:Mut (H x)) (l:e=x\/H e=some (.own x)) (k:∀ b u,b≠e->h.get? b=some u->h'.get? b=some u) (f:∃ u,h'.get? e=some u):Un fs ex H (upd H x o) h h':=by
 have j:∀ b,H b=none->b≠x:=λ b n z=>by subst z;rw[n] at d;exact d
 have i:∀ b,H b=none->b≠e:=λ b n z=>by
  subst z
  rcases l with r|r
  ·exact j b n r
  ·rw[n] at r;cases r
 have g:∀ b u,H b=some u->¬ Mut (some u)->b≠x:=λ b u q m z=>by subst z;rw[q] at d;exact m d
 refine⟨λ b u q n _ _=>k b u (i b n) q,λ b u q n _ _=>⟨u.slots,k b u (i b n) q⟩,λ b u q n _=>by rw[aE (j b n)];exact n,λ b u q _=>?_,
  λ b p q=>by rw[aE (g b _ q λ z=>z)];exact q,λ b u p q=>by rw[aE (g b _ q λ z=>z)];exact q,λ b s q=>⟨#[],by rw[aE (g b _ q λ z=>z),q];simp⟩⟩
 by_cases c:b=e
 ·subst c;exact f
 ·exact⟨u,k b u c q⟩
end
noncomputable def trk (h:Heap) (H:Hp):List Addr:=(List.range h.objs.size).filter λ a=>(H a).isSome
noncomputable def jm (h:Heap) (H:Hp):Heap:=PySem.W.hideAll h (trk h H)
theorem pH (h) (H:Hp):(jm h H).objs.size=h.objs.size:=PySem.W.hideAll_size _ _
theorem sD (e:h.get? b=some o) (n:H b=none):(jm h H).get? b=some o:=
 PySem.W.hideAll_get _ e λ c=>by
  have q:(H b).isSome=true:=(Cy.mp c).2
  rw[n] at q;simp at q
theorem tG (e:(jm h H).get? b=some o):h.get? b=some o/\H b=none:=by
 have c:h.get? b=some o:=PySem.W.of_hideAll (trk h H) e
 refine⟨c,?_⟩
 cases q:H b with
 | none=>rfl
 | some x=>
  have d:b∈trk h H:=Cy.mpr ⟨Dz.mpr (Heap.lt_size c),by simp[q]⟩
  have z:(jm h H).get? b=none:=PySem.W.hideAll_none (trk h H) d
  rw[z] at e;cases e
noncomputable def tD (g h:Heap) (L:Addr):List (Addr×Obj):=(List.range h.objs.size).filterMap λ a=>if a=L\/(g.get? a).isSome=true then none else (h.get? a).map λ o=>(a,o)
noncomputable def rest (g h:Heap) (L d:Addr):List (Addr×Obj):=(tD g h L).filter λ p=>decide (p.1≠d)
structure Mod (K:PySem.W.Frag) (mg:Str->Option Value) (base:Heap):Prop where
 kin:K.In base
 glob:base.Ns mainGlobals mg
 blt:∃ mb,base.Ns builtinsNs mb/\∀ x:Str,x ≠ "__name__" -> mb x=bootBuiltins x
 nolimit:base.NoLimit
structure Cx where
 prog:Program
 w:World
 K:PySem.W.Frag
 mg:Str->Option Value
 base:Heap
 A:Around
 N:List Str
 s₀:Shared
 H₀:Hp
 env:Env
 outer:List Env
 stack:List Env
 ex:List Addr
 fn:Str->Bool
 calm:Bool
 pn:List (Addr×Obj)
 xe:Value->Shared->Prop
noncomputable def frs (l:List Env):List Addr:=l.filterMap (·.frame)
noncomputable abbrev Cx.fs (X:Cx):List Addr:=frs X.outer
noncomputable def Vis (sc:Scope) (x:Str):Prop:=sc.names.lookup x=some .local\/sc.names.lookup x=some .cell\/sc.names.lookup x=some .free
noncomputable def Loc (sc:Scope) (x:Str):Prop:=sc.names.lookup x=some .local\/sc.names.lookup x=some .cell
noncomputable def Look (env:Env) (h:Heap) (m:Str->Option Value) (x:Str) (u:Value):Prop:=
 (env.kindOf x=some .local/\m x=some u)\/((env.kindOf x=some .cell\/env.kindOf x=some .free)/\∃ c,env.cells.lookup x=some c/\h.IsCell c (some u))
structure Cx.Ok (X:Cx):Prop where
 mod:Mod X.K X.mg X.base
 kind:X.env.scope.kind=.function
 glob:X.env.globals=mainGlobals
 blt:X.env.builtins=builtinsNs
 above:X.s₀.heap.objs.size<=X.env.locals
 inj:∀ x y c,X.env.cells.lookup x=some c->X.env.cells.lookup y=some c->x=y
 has:∀ x,(X.env.kindOf x=some .cell\/X.env.kindOf x=some .free)->∃ c,X.env.cells.lookup x=some c
 cab:∀ x c,X.fn x=true->X.env.cells.lookup x=some c->X.s₀.heap.objs.size<=c
 hd:X.calm=true->X.A.handled=none
 frames:X.A.frames=some X.stack
 stk:X.stack=X.outer\/(X.stack=X.env::X.outer/\X.env.frame=some X.env.locals)
 exf:∀ b∈X.ex,b≠X.env.locals/\∀ x c,X.env.cells.lookup x=some c->c≠b
 bs:∀ b o,X.base.get? b=some o->X.s₀.heap.get? b=some o/\X.H₀ b=none
 bsz:X.base.objs.size<=X.s₀.heap.objs.size
 noex:∀ b o,X.base.get? b=some o->b∉X.ex
 exfs:∀ b∈X.ex,b∉X.fs
 gv:X.s₀.heap.FunFrames X.base X.outer
 frf:∀ b∈X.fs,X.H₀ b=none
structure Inv (X:Cx) (pins:List (Addr×Obj)) (σ:List (Option V)) (H:Hp) (s:Shared):Prop where
 ok:X.Ok
 os:s.os=X.s₀.os
 bare:AllBare s.gens
 base:Un X.fs X.ex X.H₀ H X.s₀.heap s.heap
 loc:∃ m,s.heap.Ns X.env.locals m/\∀ (i:Nat) (x:Str) (v:V),X.N[i]? = some x->σ[i]? = some (some v)->Vis X.env.scope x->∃ u,RelV v u/\Look X.env s.heap m x u
 cell:∀ x c,X.env.cells.lookup x=some c->∃ v,s.heap.IsCell c v
 free:H X.env.locals=none
 freeC:∀ x c,X.env.cells.lookup x=some c->H c=none\/(X.fn x=false/\∃ o u,H c=some (.frz o u))
 pin:∀ p∈X.pn++pins,s.heap.get? p.1=some p.2/\H p.1=none/\p.1≠X.env.locals/\p.1∉X.fs/\∀ v,p.2.data≠.cell v
 hok:HOk X.prog X.w H s.heap
 len:σ.length=X.N.length
section
variable {X:Cx}{pins:List (Addr×Obj)}{σ:List (Option V)}{H H':Hp}{s:Shared}{h':Heap}
theorem Cx.Ok.Bs (d:X.Ok) (e:X.base.get? b=some o):b∉X.fs:=λ c=>by
 have:=(d.gv.mem c).1
 rw[e] at this;cases this
theorem Inv.bs (I:Inv X pins σ H s):∀ b o,X.base.get? b=some o->s.heap.get? b=some o/\H b=none:=λ b o e=>
 ⟨I.base.keep b o (I.ok.bs b o e).1 (I.ok.bs b o e).2 (I.ok.Bs e) (I.ok.noex b o e),I.base.free b o (I.ok.bs b o e).1 (I.ok.bs b o e).2 (I.ok.noex b o e)⟩
theorem Inv.bk (I:Inv X pins σ H s):∀ b o,X.base.get? b=some o->s.heap.get? b=some o:=λ b o e=>(I.bs b o e).1
theorem Inv.mod (I:Inv X pins σ H s):Mod X.K X.mg X.base:=I.ok.mod
theorem Inv.kIn (I:Inv X pins σ H s):X.K.In s.heap:=I.ok.mod.kin.keeps I.bk
theorem Inv.lt (I:Inv X pins σ H s):X.env.locals<s.heap.objs.size:=let ⟨_,b,_⟩:=I.loc;b.lt
theorem Inv.sz (I:Inv X pins σ H s):X.s₀.heap.objs.size<=s.heap.objs.size:=B6 I.ok.above (DF I.lt)
theorem Inv.Bv (I:Inv X pins σ H s) (h:s.heap.objs.size<=a):a∉X.fs:=λ b=>by
 obtain⟨_,o,c,_⟩:=I.ok.gv.mem b
 exact absurd (BW (Heap.lt_size c) (B6 I.sz h)) (C8 _)
theorem Inv.cne (I:Inv X pins σ H s):∀ x c,X.env.cells.lookup x=some c->c≠X.env.locals:=λ x c e z=>by
 obtain⟨v,o,g,f⟩:=I.cell x c e
 obtain⟨m,⟨o',j,i,d,b,_⟩,_⟩:=I.loc
 rw[z,d] at g;cases g;rw[b] at f;cases f
theorem Inv.gv (I:Inv X pins σ H s):s.heap.FunFrames X.base X.outer:=by
 have all:∀ (l:List Env),(∀ b∈frs l,b∈X.fs)->X.s₀.heap.FunFrames X.base l->s.heap.FunFrames X.base l:=by
  intro l
  induction l with
  | nil=>intro _ _;trivial
  | cons env r ih=>
   intro hs hl
   obtain⟨hk,⟨L,o,hf,hn,ho,hd⟩,hr⟩:=hl
   have hL:L∈X.fs:=hs L (by unfold frs;rw[EC,hf];exact BR)
   obtain⟨sl,e⟩:=I.base.slot L o ho (I.ok.frf L hL) hL λ z=>I.ok.exfs L z hL
   exact⟨hk,⟨L,_,hf,hn,e,hd⟩,ih (λ b hb=>hs b (by unfold frs;rw[EC,hf];exact BQ _ hb)) hr⟩
 exact all X.outer (λ _ hb=>hb) I.ok.gv
theorem Inv.stack (I:Inv X pins σ H s):s.heap.FunFrames X.base X.stack:=by
 rcases I.ok.stk with e|⟨e,b⟩
 ·rw[e];exact I.gv
 ·rw[e]
  obtain⟨m,c,_⟩:=I.loc
  refine .cons (by rw[I.ok.kind];decide) b c ?_ I.gv
  exact Heap.get?_none_of_le (B6 I.ok.bsz I.ok.above)
theorem Inv.iD (I:Inv X pins σ H s):∀ b∈frs X.stack,b∈X.env.locals::X.fs:=λ b hb=>by
 rcases I.ok.stk with e|⟨e,hf⟩
 ·rw[e] at hb;exact BQ _ hb
 ·rw[e] at hb
  unfold frs at hb
  rw[EC,hf] at hb
  exact hb
theorem Inv.ic (I:Inv X pins σ H s):∀ b∈frs X.stack,H b=none:=λ b hb=>by
 rcases BF.mp (I.iD b hb) with e|hb
 ·rw[e];exact I.free
 ·obtain⟨_,o,ho,_⟩:=I.ok.gv.mem hb
  exact I.base.free b o ho (I.ok.frf b hb) λ z=>I.ok.exfs b z hb
theorem Inv.step {g':Array GenState}{t':Nat}{d':Drawn}{ch:List Addr}(I:Inv X pins σ H s)
  (A:∀ b∈ch,(b∈X.ex\/X.s₀.heap.objs.size<=b)/\b≠X.env.locals/\(∀ x c,X.env.cells.lookup x=some c->c≠b)/\∀ p∈X.pn++pins,p.1≠b)
  (B:∀ b o,b≠X.env.locals->b∉X.fs->b∉ch->s.heap.get? b=some o->H b=none->h'.get? b=some o)
  (F:∀ b o,b≠X.env.locals->b∈X.fs->b∉ch->s.heap.get? b=some o->H b=none->∃ U,h'.get? b=some { o with slots:=U }) (g:∀ b o,b∉ch->s.heap.get? b=some o->H b=none->H' b=none)
  (L:∀ b o,b∉ch->s.heap.get? b=some o->∃ o',h'.get? b=some o')
  (R:∀ b xs,H b=some (.tup xs)->H' b=some (.tup xs)) (y:∀ b o u,H b=some (.frz o u)->H' b=some (.frz o u)) (Q:∀ b T,H b=some (.tbl T)->∃ N,H' b=some (.tbl (T++N)))
  (ns:∀ m,s.heap.Ns X.env.locals m->h'.Ns X.env.locals m) (M:HOk X.prog X.w H' h') (hg:AllBare g') :
  Inv X pins σ H' { s with heap:=h',gens:=g',drawn:=d',toks:=t' }:=by
 have O:∀ b o,X.s₀.heap.get? b=some o->b≠X.env.locals:=λ b o e=>BU (BW (Heap.lt_size e) I.ok.above)
 have E:∀ b o,X.s₀.heap.get? b=some o->b∉X.ex->b∉ch:=λ b o e f J=>by
  rcases (A b J).1 with z|z
  ·exact f z
  ·exact absurd (BW (Heap.lt_size e) z) (C8 _)
 have t:∀ x c,X.env.cells.lookup x=some c->∀ v,s.heap.IsCell c v->h'.IsCell c v:=λ x c e v ⟨o,K,S⟩=>by
  have C:c∉ch:=λ z=>(A c z).2.2.1 x c e rfl
  rcases I.freeC x c e with D|⟨_,of,uf,D⟩
  ·by_cases W:c∈X.fs
   ·obtain⟨U,q⟩:=F c o (I.cne x c e) W C K D
    exact⟨_,q,S⟩
   ·exact⟨o,B c o (I.cne x c e) W C K D,S⟩
  ·obtain⟨j,_⟩:=I.hok c _ D
   obtain⟨G,_⟩:=M c _ (y c _ _ D)
   rw[K] at j;cases j
   exact⟨o,G,S⟩
 refine⟨I.ok,I.os,hg,⟨λ b o e n J f=>?_,λ b o e n J f=>?_,λ b o e n f=>?_,λ b o e f=>?_,λ b xs e=>R b xs (I.base.tups b xs e),λ b o xs e=>y b o xs (I.base.frzs b o xs e),λ b T e=>?_⟩,?_,λ x c e=>?_,?_,λ x c e=>?_,λ p Y=>?_,M,I.len⟩
 ·exact B b o (O b o e) J (E b o e f) (I.base.keep b o e n J f) (I.base.free b o e n f)
 ·obtain⟨U,j⟩:=I.base.slot b o e n J f
  obtain⟨V,G⟩:=F b _ (O b o e) J (E b o e f) j (I.base.free b o e n f)
  exact⟨V,G⟩
 ·obtain⟨o',j⟩:=I.base.there b o e f
  exact g b o' (E b o e f) j (I.base.free b o e n f)
 ·obtain⟨o',j⟩:=I.base.there b o e f
  exact L b o' (E b o e f) j
 ·obtain⟨m1,j⟩:=I.base.tbls b T e
  obtain⟨m2,G⟩:=Q b _ j
  exact⟨m1++m2,by rw[G,Array.append_assoc]⟩
 ·obtain⟨m,hn,hl⟩:=I.loc
  refine⟨m,ns m hn,λ i x v j G e3=>?_⟩
  obtain⟨u,r,l⟩:=hl i x v j G e3
  refine⟨u,r,?_⟩
  rcases l with l|⟨k,c,e,z⟩
  ·exact .inl l
  ·exact .inr ⟨k,c,e,t x c e _ z⟩
 ·obtain⟨v,z⟩:=I.cell x c e
  exact⟨v,t x c e v z⟩
 ·obtain⟨m,⟨o,_,_,K,_⟩,_⟩:=I.loc
  exact g _ o (λ z=>(A _ z).2.1 rfl) K I.free
 ·obtain⟨v,o,K,S⟩:=I.cell x c e
  rcases I.freeC x c e with D|⟨hf,of,uf,D⟩
  ·exact .inl (g c o (λ z=>(A c z).2.2.1 x c e rfl) K D)
  ·exact .inr ⟨hf,of,uf,y c _ _ D⟩
 ·obtain⟨e,n,Z,nf,d⟩:=I.pin p Y
  have C:p.1∉ch:=λ z=>(A p.1 z).2.2.2 p Y rfl
  exact⟨B p.1 p.2 Z nf C e n,g p.1 p.2 C e n,Z,nf,d⟩
theorem Inv.un {t':Nat}(I:Inv X pins σ H s) (u:Un X.fs [] H H' s.heap h') (i:HOk X.prog X.w H' h'):Inv X pins σ H' { s with heap:=h',toks:=t' }:=by
 obtain⟨m,⟨o,t,q,j,r⟩,_⟩:=id I.loc
 obtain⟨y,k⟩:=u.any j I.free (by simp)
 exact I.step (g':=s.gens) (d':=s.drawn) (ch:=[]) (λ _ z=>nomatch z) (λ b o _ g _ e n=>u.keep b o e n g (by simp)) (λ b o _ g _ e n=>u.slot b o e n g (by simp)) (λ b o _ e n=>u.free b o e n (by simp)) (λ b o _ e=>u.there b o e (by simp)) u.tups u.frzs u.tbls (λ v l=>by
  obtain⟨o',f,d,c,p⟩:=l
  rw[j] at c;cases c
  exact⟨_,f,d,k,p⟩) i I.bare
theorem Inv.call {g':Array GenState}{t':Nat}{d':Drawn}{ch:List Addr}(I:Inv X pins σ H s) (u:Un (frs X.stack) ch H H' s.heap h') (hok:HOk X.prog X.w H' h') (hg:AllBare g')
  (hch:∀ b∈ch,(b∈X.ex\/X.s₀.heap.objs.size<=b)/\b≠X.env.locals/\(∀ x c,X.env.cells.lookup x=some c->c≠b)/\∀ p∈X.pn++pins,p.1≠b) :
  Inv X pins σ H' { s with heap:=h',gens:=g',drawn:=d',toks:=t' }:=by
 obtain⟨m,⟨o,es,ep,ho,r⟩,_⟩:=id I.loc
 obtain⟨sl,hL⟩:=u.any ho I.free λ z=>(hch _ z).2.1 rfl
 exact I.step (ch:=ch) hch (λ b o hL hb hc e n=>u.keep b o e n (λ z=>(BF.mp (I.iD b z)).elim hL hb) hc) (λ b o _ _ hc e n=>u.any e n hc) (λ b o hc e n=>u.free b o e n hc) (λ b o hc e=>u.there b o e hc) u.tups u.frzs u.tbls (λ m' hm=>by
  obtain⟨o',es',ep',ho',r'⟩:=hm
  rw[ho] at ho';cases ho'
  exact⟨_,es',ep',hL,r'⟩) hok hg
theorem Inv.turned {t':Nat}{d:Addr}(I:Inv X pins σ H s) (k:∀ b o,b≠d->s.heap.get? b=some o->h'.get? b=some o) (B:H d=none) (i:d≠X.env.locals)
  (h1:d∈X.ex\/X.s₀.heap.objs.size<=d) (h2:∀ x c,X.env.cells.lookup x=some c->c≠d) (t:∀ p∈X.pn++pins,p.1≠d):Inv X pins σ H { s with heap:=h',toks:=t' }:=by
 have g:∀ b u,H b=some u->b≠d:=λ b u e z=>by rw[z,B] at e;cases e
 refine I.step (g':=s.gens) (d':=s.drawn) (ch:=[d]) (λ b y=>?_) (λ b o _ _ f e _=>k b o (λ z=>f (by simp[z])) e) (λ b o _ _ f e _=>⟨o.slots,k b o (λ z=>f (by simp[z])) e⟩) (λ _ _ _ _ n=>n)
  (λ b o f e=>⟨o,k b o (λ z=>f (by simp[z])) e⟩) (λ _ _ e=>e) (λ _ _ _ e=>e) (λ b D e=>⟨#[],by rw[e];simp⟩) (λ m A=>?_) (λ b u e=>?_) I.bare
 ·have e:b=d:=by simpa using y
  subst e
  exact⟨h1,i,h2,t⟩
 ·obtain⟨o,l,j,C,r⟩:=A
  exact⟨o,l,j,k _ o (Ne.symm i) C,r⟩
 ·refine(I.hok b u e).iT (λ c v f q=>k c v ?_ q) (λ _ q=>q) λ _ _ q=>q
  rcases f with z|z
  ·rw[z];exact g b u e
  ·exact g c _ z
theorem Inv.tok (I:Inv X pins σ H s) (t):Inv X pins σ H { s with toks:=t }:=I.un (h':=s.heap) (t':=t) Un.refl I.hok
theorem Inv.kept (I:Inv X pins σ H s) (k:∀ b u,s.heap.get? b=some u->h'.get? b=some u):Inv X pins σ H { s with heap:=h',toks:=t' }:=I.un (Un.kept k) (I.hok.kept k)
theorem Inv.laid (I:Inv X pins σ H s) (k:∀ b u,s.heap.get? b=some u->h'.get? b=some u) (c:s.heap.objs.size<=a) (d:bo X.prog X.w (upd H a o) h' a o) :
  Inv X pins σ (upd H a o) { s with heap:=h',toks:=t' }:=I.un (Un.laid k c (I.hok.fresh c)) (I.hok.laid k c d)
theorem Inv.write (I:Inv X pins σ H s) (g:Mut (H x)) (f:e=x\/H e=some (.own x)) (k:∀ b u,b≠e->s.heap.get? b=some u->h'.get? b=some u) (c:∃ u,h'.get? e=some u)
  (d:bo X.prog X.w (upd H x o) h' x o):Inv X pins σ (upd H x o) { s with heap:=h',toks:=t' }:=I.un (Un.write g f k c) (I.hok.write g f k c d)
theorem Inv.o8 (I:Inv X pins σ H s) (h:∀ p∈b,s.heap.get? p.1=some p.2/\H p.1=none/\p.1≠X.env.locals/\p.1∉X.fs/\∀ v,p.2.data≠.cell v):Inv X b σ H s:=
 ⟨I.ok,I.os,I.bare,I.base,I.loc,I.cell,I.free,I.freeC,λ p c=>(BH.mp c).elim (λ z=>I.pin p (BS _ z)) (h p),I.hok,I.len⟩
theorem my {N:List Str}(f:N.Nodup) {i j:Nat}{x:Str}(a:N[i]? = some x) (b:N[j]? = some x):i=j:=by
 obtain⟨h1,c⟩:=BE.mp a
 obtain⟨h2,d⟩:=BE.mp b
 exact(List.getElem_inj f).mp (c.trans d.symm)
theorem jw {M:Model}{A:Around}{E:Value->Shared->Prop}{i:Nat}{x:Str}{v:V}{u:Value}{Q:Unit->Shared->Prop}(I:Inv X pins σ H s) (hN:X.N.Nodup) (hi:X.N[i]? = some x) (hx:Loc X.env.scope x) (r:RelV v u)
  (h:∀ s',Inv X pins (σ.set i (some v)) H s'->(∃ a,Heap.SameBut a s.heap s'.heap/\(a=X.env.locals\/X.env.cells.lookup x=some a))->Q () s') (hf:X.fn x=true\/X.env.scope.names.lookup x=some .local:=by first|exact .inl rfl|exact .inr rfl|assumption):wpAny M A (storeName X.env x u) Q E s:=by
 obtain⟨m,hn,hl⟩:=id I.loc
 have hcls:(X.env.scope.kind == .class || (X.env.scope.kind == .module && X.env.locals != X.env.globals))=false:=by rw[I.ok.kind];rfl
 have hiσ:i<σ.length:=by rw[I.len];exact(BE.mp hi).1
 have cne:=I.cne
 have tracked:∀ {a:Addr} {h':Heap},(∃ o,s.heap.get? a=some o/\H a=none)->Heap.SameBut a s.heap h'->HOk X.prog X.w H h':=λ{a h'} ha hs b ob e=>by
  obtain⟨_,_,hfree⟩:=ha
  refine(I.hok b ob e).iT (λ c w' hc q=>(hs.2 c ?_).trans q) (λ _ q=>q) λ _ _ q=>q
  rintro rfl
  rcases hc with rfl|hc
  ·rw[hfree] at e;cases e
  ·rw[hfree] at hc;cases hc
 rcases hx with hk|hk
 ·refine wpAny_storeName_local hk hn (λ h' hn' hs=>?_) hcls
  obtain⟨oL,_,_,hoL,_⟩:=id hn
  refine h _ ⟨I.ok,I.os,I.bare,⟨λ b o e n hb hx=>?_,λ b o e n hb hx=>?_,I.base.free,λ b o e hx=>?_,I.base.tups,I.base.frzs,I.base.tbls⟩,⟨_,hn',λ j y v' e1 e2 e3=>?_⟩,λ y c e=>?_,I.free,I.freeC,λ p hp=>?_,tracked ⟨oL,hoL,I.free⟩ hs,by simpa using I.len⟩ ⟨_,hs,.inl rfl⟩
  ·exact(hs.2 b (BU (BW (Heap.lt_size e) I.ok.above))).trans (I.base.keep b o e n hb hx)
  ·obtain⟨sl,e1⟩:=I.base.slot b o e n hb hx
   exact⟨sl,(hs.2 b (BU (BW (Heap.lt_size e) I.ok.above))).trans e1⟩
  ·obtain⟨o',e1⟩:=I.base.there b o e hx
   exact⟨o',(hs.2 b (BU (BW (Heap.lt_size e) I.ok.above))).trans e1⟩
  ·by_cases hj:j=i
   ·subst hj
    rw[hi] at e1;cases e1
    rw[B8 hiσ] at e2
    cases e2
    exact⟨u,r,.inl ⟨hk,by simp⟩⟩
   ·rw[Cp (Ne.symm hj)] at e2
    obtain⟨u',r',q⟩:=hl j y v' e1 e2 e3
    refine⟨u',r',?_⟩
    rcases q with ⟨k,e⟩|⟨k,c,e,z⟩
    ·refine .inl ⟨k,?_⟩
     have:y≠x:=λ e=>hj (my hN e1 (e ▸ hi))
     simp[this,e]
    ·exact .inr ⟨k,c,e,z.sameBut hs (cne y c e)⟩
  ·obtain⟨w',z⟩:=I.cell y c e
   exact⟨w',z.sameBut hs (cne y c e)⟩
  ·obtain⟨e,n,ne,nf,d⟩:=I.pin p hp
   exact⟨(hs.2 p.1 ne).trans e,n,ne,nf,d⟩
 ·have hfn:X.fn x=true:=by
   rcases hf with z|z
   ·exact z
   ·rw[z] at hk;cases hk
  obtain⟨c,hc⟩:=I.ok.has x (.inl hk)
  obtain⟨w',z⟩:=I.cell x c hc
  refine wpAny_storeName_cell I.ok.kind hk hc z (λ h' hc' hs=>?_)
  obtain⟨oc,hoc,hocd⟩:=id z
  refine h { s with heap:=h' } ⟨I.ok,I.os,I.bare,⟨λ b o e n hb hx=>?_,λ b o e n hb hx=>?_,I.base.free,λ b o e hx=>?_,I.base.tups,I.base.frzs,I.base.tbls⟩,⟨m,hn.sameBut hs (Ne.symm (cne x c hc)),λ j y v' e1 e2 e3=>?_⟩,λ y c' e=>?_,I.free,I.freeC,λ p hp=>?_,tracked ⟨oc,hoc,(I.freeC x c hc).elim id λ z=>absurd (hfn.symm.trans z.1) (by decide)⟩ hs,by simpa using I.len⟩ ⟨c,hs,.inr hc⟩
  ·exact(hs.2 b (BU (BW (Heap.lt_size e) (I.ok.cab x c hfn hc)))).trans (I.base.keep b o e n hb hx)
  ·obtain⟨sl,e1⟩:=I.base.slot b o e n hb hx
   exact⟨sl,(hs.2 b (BU (BW (Heap.lt_size e) (I.ok.cab x c hfn hc)))).trans e1⟩
  ·obtain⟨o',e1⟩:=I.base.there b o e hx
   exact⟨o',(hs.2 b (BU (BW (Heap.lt_size e) (I.ok.cab x c hfn hc)))).trans e1⟩
  ·by_cases hj:j=i
   ·subst hj
    rw[hi] at e1;cases e1
    rw[B8 hiσ] at e2
    cases e2
    exact⟨u,r,.inr ⟨.inl hk,c,hc,hc'⟩⟩
   ·rw[Cp (Ne.symm hj)] at e2
    obtain⟨u',r',q⟩:=hl j y v' e1 e2 e3
    refine⟨u',r',?_⟩
    rcases q with q|⟨k,c',e,z'⟩
    ·exact .inl q
    ·refine .inr ⟨k,c',e,z'.sameBut hs ?_⟩
     rintro rfl
     exact hj (my hN e1 (I.ok.inj _ _ _ e hc ▸ hi))
  ·by_cases hcc:c'=c
   ·subst hcc;exact⟨_,hc'⟩
   ·obtain⟨w2,z2⟩:=I.cell y c' e
    exact⟨w2,z2.sameBut hs hcc⟩
  ·obtain⟨e,n,ne,nf,d⟩:=I.pin p hp
   refine⟨(hs.2 p.1 ?_).trans e,n,ne,nf,d⟩
   intro q
   rw[q,hoc] at e
   have q':oc=p.2:=Option.some.inj e
   exact d w' (by rw[<- q'];exact hocd)
theorem iO (I:Inv X pins σ H s) (d:X.N.Nodup) (hi:X.N[i]? = some x) (g:Loc X.env.scope x) (r:RelV v u)
  (h:∀ b,Inv X pins (σ.set i (some v)) H b->Q () b) (f:X.fn x=true\/X.env.scope.names.lookup x=some .local:=by first|exact .inl rfl|exact .inr rfl|assumption):wpAny M A (storeName X.env x u) Q E s:=
 jw I d hi g r (λ b c _=>h b c) f
theorem Inv.w4 (I:Inv X pins σ H s) (i:s'.os=s.os) (u:Un (frs X.stack) ch H H' s.heap s'.heap) (f:HOk X.prog X.w H' s'.heap) (g:AllBare s'.gens)
  (d:∀ b∈ch,(b∈X.ex\/X.s₀.heap.objs.size<=b)/\b≠X.env.locals/\(∀ x c,X.env.cells.lookup x=some c->c≠b)/\∀ p∈X.pn++pins,p.1≠b):Inv X pins σ H' s':=by
 obtain⟨h',g',d',t',o'⟩:=s'
 have e:o'=s.os:=i
 subst e
 exact I.call (g':=g') (t':=t') (d':=d') u f g d
end
noncomputable abbrev XK:=Value->Option Addr->Hp->Prop
noncomputable abbrev St:=List (Option V)
noncomputable abbrev VK:=V->Hp->Prop
noncomputable abbrev TE:=St->Hp->VK->Prop
noncomputable abbrev TT:=St->Hp->(Bool->Hp->Prop)->Prop
noncomputable abbrev TA:=St->Hp->(List V->Hp->Prop)->Prop
structure Ends where
 nx:St->Hp->Prop
 rt:VK
 bk:St->Hp->Prop:=λ _ _=>False
 ct:St->Hp->Prop:=λ _ _=>False
noncomputable abbrev TS:=Ends->St->Hp->Prop
noncomputable def EP (X:Cx) (pins:List (Addr×Obj)) (σ:St) (Q:VK) (u:Value) (s':Shared):Prop:=∃ v H',Inv X pins σ H' s'/\RelV v u/\Q v H'
noncomputable def TP (X:Cx) (pins:List (Addr×Obj)) (σ:St) (Q:Bool->Hp->Prop) (b:Bool) (s':Shared):Prop:=∃ H',Inv X pins σ H' s'/\Q b H'
noncomputable def AP (X:Cx) (pins:List (Addr×Obj)) (σ:St) (Q:List V->Hp->Prop) (us:List Value) (s':Shared):Prop:=∃ vs H',Inv X pins σ H' s'/\Vals vs us/\Q vs H'
noncomputable def SP (X:Cx) (pins:List (Addr×Obj)) (D:Ends) (f:Flow) (s':Shared):Prop:=
 match f with
 | .next=>∃ σ' H',Inv X pins σ' H' s'/\D.nx σ' H'
 | .brk=>∃ σ' H',Inv X pins σ' H' s'/\D.bk σ' H'
 | .cont=>∃ σ' H',Inv X pins σ' H' s'/\D.ct σ' H'
 | .ret u=>∃ v σ' H',Inv X pins σ' H' s'/\RelV v u/\D.rt v H'
noncomputable def PE (X:Cx) (e:Expr) (t:TE):Prop:=
 ∀ (pins:List (Addr×Obj)) (s:Shared) (σ:St) (H:Hp) (Q:VK),Inv X pins σ H s->t σ H Q->wpAny (model X.prog X.w) X.A (eval e X.env) (EP X pins σ Q) X.xe s
noncomputable def PT (X:Cx) (e:Expr) (t:TT):Prop:=
 ∀ (pins:List (Addr×Obj)) (s:Shared) (σ:St) (H:Hp) (Q:Bool->Hp->Prop),Inv X pins σ H s->t σ H Q->wpAny (model X.prog X.w) X.A (isTrue e X.env (eval e X.env)) (TP X pins σ Q) X.xe s
noncomputable def PW (X:Cx) (e:Expr) (t:TT):Prop:=
 ∀ (whole:Sem Value) (pins:List (Addr×Obj)) (s:Shared) (σ:St) (H:Hp) (Q:Bool->Hp->Prop),Inv X pins σ H s->t σ H Q->wpAny (model X.prog X.w) X.A (isTrue e X.env whole) (TP X pins σ Q) X.xe s
theorem PW.pt (h:PW X e t):PT X e t:=h _
noncomputable def PA (X:Cx) (es:List Expr) (t:TA):Prop:=
 ∀ (pos:Pos) (pins:List (Addr×Obj)) (s:Shared) (σ:St) (H:Hp) (Q:List V->Hp->Prop),Inv X pins σ H s->t σ H Q->wpAny (model X.prog X.w) X.A (spliced (backTo pos (starEach es X.env))) (AP X pins σ Q) X.xe s
noncomputable def PS (X:Cx) (st:Stmt) (t:TS):Prop:=
 ∀ (pins:List (Addr×Obj)) (s:Shared) (σ:St) (H:Hp) (D:Ends),Inv X pins σ H s->t D σ H->wpAny (model X.prog X.w) X.A (exec st X.env) (SP X pins D) X.xe s
noncomputable def PSs (X:Cx) (st:List Stmt) (t:TS):Prop:=
 ∀ (pins:List (Addr×Obj)) (s:Shared) (σ:St) (H:Hp) (D:Ends),Inv X pins σ H s->t D σ H->wpAny (model X.prog X.w) X.A (execs st X.env) (SP X pins D) X.xe s
theorem thn (h:wpAny M A t Q E s) (b:∀ a s,Q a s->Q' a s):wpAny M A t Q' E s:=Cw h b λ _ _ x=>x
section
variable {X:Cx}
noncomputable def cN (i:Nat):TE:=λ σ H Q=>∃ v,σ[i]? = some (some v)/\Q v H
noncomputable def tC (v:V):TE:=λ _ H Q=>Q v H
theorem vX (n:X.N[i]? = some x) (y:Vis X.env.scope x) (j:(x == ("__debug__" : Str))=false:=by decide) (g:(x == ("__classdict__" : Str))=false:=by decide):PE X (.Name x pos) (cN i):=by
 intro pins s σ H Q I h
 obtain⟨v,e,h⟩:=h
 obtain⟨m,t,p⟩:=I.loc
 obtain⟨u,r,l⟩:=p i x v n e y
 have d:EP X pins σ Q u s:=⟨v,H,I,r,h⟩
 rcases l with ⟨f,q⟩|⟨f,c,k,b⟩
 ·exact wpAny_Name (wpAny_loadName_local I.ok.kind f t q d) j
 ·rcases f with f|f
  ·exact wpAny_Name (wpAny_loadName_cell I.ok.kind f k b d) j
  ·exact wpAny_Name (wpAny_loadName_free I.ok.kind f k b d g) j
theorem aN {i j pos}:PE X (.Constant (.int i) j pos) (tC (.int i)):=λ _ _ _ H _ I h=>wpAny_Constant_int ⟨.int i,H,I.tok _,⟨_,rfl⟩,h⟩
theorem eZ {b j pos}:PE X (.Constant (.bool b) j pos) (tC (.bl b)):=λ _ _ _ H _ I h=>Constant_bool ⟨.bl b,H,I,rfl,h⟩
theorem gJ {j pos}:PE X (.Constant .none j pos) (tC .non):=λ _ _ _ H _ I h=>Constant_none ⟨.non,H,I,rfl,h⟩
theorem dD {x j pos}:PE X (.Constant (.str x) j pos) (tC (.str x)):=λ _ _ _ H _ I h=>Calls.Constant_str ⟨.str x,H,I.tok _,⟨_,rfl⟩,h⟩
noncomputable def Gl (X:Cx) (x:Str):Prop:=X.env.kindOf x=some .globalImplicit
theorem fZ (I:Inv X pins σ H s) (c:Gl X x) (d:X.mg x=some u) (h:Q u s)
  (b:(x == ("__debug__" : Str))=false:=by decide):wpAny (model X.prog X.w) X.A (eval (.Name x pos) X.env) Q E s:=
 Calls.Name_function_global I.ok.kind c (Calls.loadGlobal_global (by rw[I.ok.glob];exact I.mod.glob.keeps I.bk) d h) b
theorem gH (I:Inv X pins σ H s) (c:Gl X x) (d:X.mg x=none) (g:bootBuiltins x=some u) (h:Q u s)
  (f:x ≠ "__name__":=by decide) (b:(x == ("__debug__" : Str))=false:=by decide):wpAny (model X.prog X.w) X.A (eval (.Name x pos) X.env) Q E s:=by
 obtain⟨i,h1,h2⟩:=I.mod.blt
 exact Calls.Name_function_global I.ok.kind c (Calls.loadGlobal_builtin (by rw[I.ok.glob];exact I.mod.glob.keeps I.bk) d (by rw[I.ok.blt];exact h1.keeps I.bk) ((h2 x f).trans g) h) b
theorem om (c:Gl X x) (d:X.mg x=some u) (r:RelV v u) (b:(x == ("__debug__" : Str))=false:=by decide):PE X (.Name x pos) (tC v):=
 λ _ _ _ H _ I h=>fZ I c d ⟨v,H,I,r,h⟩ b
theorem j5 (c:Gl X x) (d:X.mg x=none) (g:bootBuiltins x=some u) (r:RelV v u) (f:x ≠ "__name__":=by decide) (b:(x == ("__debug__" : Str))=false:=by decide):PE X (.Name x pos) (tC v):=
 λ _ _ _ H _ I h=>gH I c d g ⟨v,H,I,r,h⟩ f b
variable {a b:Expr}{ta tb:TE}{pos:Pos}
noncomputable def PC (X:Cx) (op:CmpOp) (a b:Expr) (t:TE):Prop:=
 ∀ (pins:List (Addr×Obj)) (s:Shared) (σ:St) (H:Hp) (Q:VK),Inv X pins σ H s->t σ H Q ->
  wpAny (model X.prog X.w) X.A (eval a X.env) (λ v s₁=>wpAny (model X.prog X.w) X.A (eval b X.env) (λ u s₂=>wpAny (model X.prog X.w) X.A (compareOp op v u) (EP X pins σ Q) X.xe s₂) X.xe s₁) X.xe s
theorem w5 (b:Expr) (h:op≠.In) (h2:op≠.NotIn):behindInMarks op b=false:=by
 have c:(op == CmpOp.In)=false:=by cases op<;>first|rfl|exact absurd rfl h
 have d:(op == CmpOp.NotIn)=false:=by cases op<;>first|rfl|exact absurd rfl h2
 cases b<;>simp[behindInMarks,c,d]
noncomputable def tB (t:TE):TT:=λ σ H Q=>t σ H λ x H1=>∃ c,x=.bl c/\Q c H1
theorem iM (h:PC X op a b t) (h1:behindInMarks op b=false:=by first|exact f _ (by decide) (by decide)|rfl):PT X (.Compare a [op] [b] pos) (tB t):=by
 intro pins s σ H Q I i
 refine wpAny_isTrue_Compare1 (thn (h pins s σ H _ I i) λ v l h1=>thn h1 λ u m h2=>thn h2 λ c n ⟨x,H1,g,k,j⟩=>?_) h1
 obtain⟨d,rfl,q⟩:=j
 cases k
 exact C9 ⟨H1,g,q⟩
theorem cI {e:Expr}{t:TE}(h:PE X e t) (he:∀ whole,isTrue e X.env whole=(do let v <- whole;standAt e.pos;holding [v] (truthy v)):=by intro _;rfl):PT X e (tB t):=by
 intro pins s σ H Q I hw
 refine isTrue_plain (thn (h pins s σ H _ I hw) λ v s1 ⟨x,H1,I1,r1,q1⟩=>?_) (he _)
 obtain⟨d,rfl,q⟩:=q1
 cases r1
 exact C9 ⟨H1,I1,q⟩
variable {tA tB':TT}{rest:List Expr}
noncomputable def Bg (t u:TT):TT:=λ σ H Q=>t σ H λ c H1=>if c=true then u σ H1 Q else Q false H1
noncomputable def tOr (t u:TT):TT:=λ σ H Q=>t σ H λ c H1=>if c=true then Q true H1 else u σ H1 Q
noncomputable def Bi (t:TT):TT:=λ σ H Q=>t σ H λ c H1=>Q (!c) H1
theorem kL (d:PT X a tA):PW X (.BoolOp .And [a] pos) tA:=by
 intro g pins s σ H Q I h
 refine isTrue_and (thn (d pins s σ H Q I h) λ c f e=>?_)
 cases c with
 | true=>exact isTrue_and_nil e
 | false=>exact e
theorem gB (d:PT X a tA):PW X (.BoolOp .Or [a] pos) tA:=by
 intro g pins s σ H Q I h
 refine isTrue_or (thn (d pins s σ H Q I h) λ c f e=>?_)
 cases c with
 | false=>exact isTrue_or_nil e
 | true=>exact e
theorem nj (g:PT X a tA) (i:PW X (.BoolOp .And (b::rest) pos) tB'):PW X (.BoolOp .And (a::b::rest) pos) (Bg tA tB'):=by
 intro k pins s σ H Q I h
 refine isTrue_and (thn (g pins s σ H _ I h) λ c j ⟨H1,d,f⟩=>?_)
 cases c with
 | true=>exact i k pins j σ H1 Q d f
 | false=>exact⟨H1,d,f⟩
theorem fP (g:PT X a tA) (i:PW X (.BoolOp .Or (b::rest) pos) tB'):PW X (.BoolOp .Or (a::b::rest) pos) (tOr tA tB'):=by
 intro k pins s σ H Q I h
 refine isTrue_or (thn (g pins s σ H _ I h) λ c j ⟨H1,d,f⟩=>?_)
 cases c with
 | true=>exact⟨H1,d,f⟩
 | false=>exact i k pins j σ H1 Q d f
theorem cY (d:PT X a tA):PT X (.UnaryOp .Not a pos) (Bi tA):=by
 intro pins s σ H Q I h
 exact isTrue_not (d pins s σ H (λ c H1=>Q (!c) H1) I h)
noncomputable def yZ (ta tb:TE):TE:=λ σ H Q=>ta σ H λ x H1=>∃ c,x=.bl c/\if c=true then tb σ H1 Q else Q (.bl false) H1
noncomputable def Bu (ta tb:TE):TE:=λ σ H Q=>ta σ H λ x H1=>∃ c,x=.bl c/\if c=true then Q (.bl true) H1 else tb σ H1 Q
noncomputable def xt (ta:TE):TE:=λ σ H Q=>ta σ H λ x H1=>∃ c,x=.bl c/\Q (.bl (!c)) H1
theorem iX {op}(h:PE X a t):PE X (.BoolOp op [a] pos) t:=λ pins s σ H Q I c=>BoolOp_one (h pins s σ H Q I c)
theorem kR (g:PE X a ta) (i:PE X (.BoolOp .And (b::rest) pos) tb):PE X (.BoolOp .And (a::b::rest) pos) (yZ ta tb):=by
 intro pins s σ H Q I h
 refine BoolOp_and (thn (g pins s σ H _ I h) λ v k ⟨x,H1,f,j,d⟩=>?_)
 obtain⟨c,rfl,d⟩:=d
 cases j
 refine C9 ?_
 cases c with
 | true=>exact i pins k σ H1 Q f d
 | false=>exact⟨.bl false,H1,f,rfl,d⟩
theorem AL (g:PE X a ta) (i:PE X (.BoolOp .Or (b::rest) pos) tb):PE X (.BoolOp .Or (a::b::rest) pos) (Bu ta tb):=by
 intro pins s σ H Q I h
 refine BoolOp_or (thn (g pins s σ H _ I h) λ v k ⟨x,H1,f,j,d⟩=>?_)
 obtain⟨c,rfl,d⟩:=d
 cases j
 refine C9 ?_
 cases c with
 | false=>exact i pins k σ H1 Q f d
 | true=>exact⟨.bl true,H1,f,rfl,d⟩
theorem mM (g:PE X a ta):PE X (.UnaryOp .Not a pos) (xt ta):=by
 intro pins s σ H Q I h
 refine UnaryOp_ (thn (g pins s σ H _ I h) λ v j ⟨x,H1,f,i,d⟩=>?_)
 obtain⟨c,rfl,d⟩:=d
 cases i
 exact not_of (C9 ⟨.bl (!c),H1,f,rfl,d⟩)
end
noncomputable def SqL (K:PySem.W.Frag) (H:Hp) (a:Addr) (xs:List V):Prop:=
 Rd H a (.lst xs) \/
  ∃ (o:Obj) (its:Array Value) (n:Nat),K.lookup a=some o/\o.cls=.type "list" /\ o.dict=none/\o.data=.seq its n/\its.size<=sizeLine/\Vals xs its.toList
noncomputable def SqT (K:PySem.W.Frag) (H:Hp) (a:Addr) (xs:List V):Prop:=
 Rd H a (.tup xs) \/
  ∃ (o:Obj) (its:Array Value) (n:Nat),K.lookup a=some o/\o.cls=.type "tuple" /\ o.data=.seq its n/\its.size<=sizeLine/\Vals xs its.toList
noncomputable def Bp:Value->Option V
 | .none=>some .non
 | .bool b=>some (.bl b)
 | .int i _=>some (.int i)
 | .str x _=>some (.str x)
 | .bytes b _=>some (.byt b)
 | .float b _=>some (.flt b)
 | .ref a=>some (.ref a)
 | .type n=>some (.ty n)
 | _=>none
theorem RelV.abs {x:V}{u:Value}(r:RelV x u):Bp u=some x:=by
 cases x with
 | non=>cases r;rfl
 | bl _=>cases r;rfl
 | int _=>obtain⟨t,rfl⟩:=r;rfl
 | str _=>obtain⟨t,rfl⟩:=r;rfl
 | byt _=>obtain⟨t,rfl⟩:=r;rfl
 | flt _=>obtain⟨t,rfl⟩:=r;rfl
 | ref _=>cases r;rfl
 | ty _=>cases r;rfl
theorem RelV.inj (r:RelV x u) (q:RelV y u):x=y:=Option.some.inj (r.abs.symm.trans q.abs)
theorem Vals.inj:∀ {xs ys:List V}{us:List Value},Vals xs us->Vals ys us->xs=ys
 | _,_,_,.nil,.nil=>rfl
 | _,_,_,.cons r t,.cons c d=>by rw[r.inj c,Vals.inj t d]
section
variable {X:Cx}{pins:List (Addr×Obj)}{σ:St}{H:Hp}{s:Shared}{a:Addr}{xs ys:List V}
theorem SqL.of {K:PySem.W.Frag}(h:H a=some (.lst xs)):SqL K H a xs:=.inl (.inl h)
theorem SqT.of {K:PySem.W.Frag}(h:H a=some (.tup xs)):SqT K H a xs:=.inl (.inl h)
theorem Inv.list (I:Inv X pins σ H s) (h:SqL X.K H a xs):∃ its:List Value,Vals xs its/\PlainL s.heap a its.toArray/\xs.length<=sizeLine:=by
 rcases h with h|⟨o,its,n,f,c,d,g,i,r⟩
 ·obtain⟨z,its,n,r,e⟩:=h.ok I.hok
  exact⟨its,r,⟨_,n,e,rfl,rfl,rfl⟩,z⟩
 ·refine⟨its.toList,r,⟨o,n,I.kIn a o f,c,d,by simpa using g⟩,?_⟩
  have e:=r.length
  simp only[BP] at e
  lia
theorem Inv.tuple (I:Inv X pins σ H s) (h:SqT X.K H a xs):∃ its:List Value,Vals xs its/\IsTup s.heap a its.toArray/\xs.length<=sizeLine:=by
 rcases h with h|⟨o,its,n,d,c,f,g,r⟩
 ·obtain⟨z,its,r,p⟩:=h.ok I.hok
  exact⟨its,r,p,z⟩
 ·refine⟨its.toList,r,⟨o,I.kIn a o d,c,n,by simpa using f⟩,?_⟩
  have e:=r.length
  simp only[BP] at e
  lia
theorem Inv.gi (I:Inv X pins σ H s) (h:SqL X.K H a xs) (h':SqL X.K H a ys):xs=ys:=by
 obtain⟨f,r,⟨o,n,e,_,_,d⟩,_⟩:=I.list h
 obtain⟨c,k,⟨o',l,i,_,_,g⟩,_⟩:=I.list h'
 rw[e] at i;cases i
 rw[d] at g
 injection g with j _
 have:f=c:=by simpa using congrArg Array.toList j
 subst this
 exact r.inj k
theorem Inv.qa (I:Inv X pins σ H s) (h:SqT X.K H a xs) (h':SqT X.K H a ys):xs=ys:=by
 obtain⟨f,r,⟨o,e,_,n,d⟩,_⟩:=I.tuple h
 obtain⟨c,k,⟨o',i,_,l,g⟩,_⟩:=I.tuple h'
 rw[e] at i;cases i
 rw[d] at g
 injection g with j _
 have:f=c:=by simpa using congrArg Array.toList j
 subst this
 exact r.inj k
end
noncomputable abbrev Cx.g8 (X:Cx) (E:Value->Shared->Prop):Cx:={ X with xe:=E }
noncomputable abbrev Cx.nox (X:Cx):Cx:=X.g8 λ _ _=>False
theorem Cx.Ok.g8 {X:Cx}(c:X.Ok) (E:Value->Shared->Prop):(X.g8 E).Ok:=
 ⟨c.mod,c.kind,c.glob,c.blt,c.above,c.inj,c.has,c.cab,c.hd,c.frames,c.stk,c.exf,c.bs,c.bsz,c.noex,c.exfs,c.gv,c.frf⟩
theorem Cx.Ok.dY {X:Cx}{E:Value->Shared->Prop}(c:(X.g8 E).Ok):X.Ok:=
 ⟨c.mod,c.kind,c.glob,c.blt,c.above,c.inj,c.has,c.cab,c.hd,c.frames,c.stk,c.exf,c.bs,c.bsz,c.noex,c.exfs,c.gv,c.frf⟩
section
variable {X:Cx}{pins:List (Addr×Obj)}{σ:St}{H:Hp}{s:Shared}{E:Value->Shared->Prop}
theorem Inv.g8 (I:Inv X pins σ H s) (E:Value->Shared->Prop):Inv (X.g8 E) pins σ H s:=⟨I.ok.g8 E,I.os,I.bare,I.base,I.loc,I.cell,I.free,I.freeC,I.pin,I.hok,I.len⟩
theorem Inv.dY (I:Inv (X.g8 E) pins σ H s):Inv X pins σ H s:=⟨I.ok.dY,I.os,I.bare,I.base,I.loc,I.cell,I.free,I.freeC,I.pin,I.hok,I.len⟩
theorem SP.dY (h:SP (X.g8 E) pins D f s'):SP X pins D f s':=by
 cases f with
 | next=>obtain⟨c,H',I,q⟩:=h;exact⟨c,H',I.dY,q⟩
 | brk=>obtain⟨c,H',I,q⟩:=h;exact⟨c,H',I.dY,q⟩
 | cont=>obtain⟨c,H',I,q⟩:=h;exact⟨c,H',I.dY,q⟩
 | ret u=>obtain⟨v,c,H',I,r,q⟩:=h;exact⟨v,c,H',I.dY,r,q⟩
theorem PE.nox (h:PE X.nox e t):PE X e t:=λ pins s σ H Q I d=>
 Cw (h pins s σ H Q (I.g8 _) d) (λ _ _ ⟨v,H',c,r,q⟩=>⟨v,H',c.dY,r,q⟩) λ _ _ z=>False.elim z
theorem PSs.nox {st:List Stmt}{t:TS}(h:PSs X.nox st t):PSs X st t:=λ pins s σ H D I c=>
 Cw (h pins s σ H D (I.g8 _) c) (λ _ _ q=>q.dY) λ _ _ z=>False.elim z
end
section
variable {X:Cx}{st:Stmt}{rest:List Stmt}{t u:TS}{e:Expr}{te:TE}{pos:Pos}
noncomputable def uY:TS:=λ D σ H=>D.nx σ H
noncomputable def ja (t u:TS):TS:=λ D σ H=>t { D with nx:=u D } σ H
theorem bu:PSs X [] uY:=λ _ _ σ H _ I h=>Fd ⟨σ,H,I,h⟩
theorem aH (h1:PS X st t) (h2:PSs X rest u):PSs X (st::rest) (ja t u):=by
 intro pins s σ H D I h
 refine E0 (thn (h1 pins s σ H { D with nx:=u D } I h) λ f s1 q=>?_)
 cases f with
 | next=>
  obtain⟨σ',H',I',q⟩:=q
  exact h2 pins s1 σ' H' D I' q
 | ret v=>exact q
 | brk=>exact q
 | cont=>exact q
theorem aJ (h1:PS X st t):PSs X [st] t:=by
 intro pins s σ H D I h
 refine E0 (thn (h1 pins s σ H D I h) λ f c q=>?_)
 cases f with
 | next=>exact Fd q
 | ret v=>exact q
 | brk=>exact q
 | cont=>exact q
theorem Inv.quiet (I:Inv X pins σ H s):interactive X.env=false:=by simp[interactive,I.ok.kind]
noncomputable def vc (te:TE):TS:=λ D σ H=>te σ H λ _ H1=>D.nx σ H1
theorem bh (d:PE X e te) (hs:swapsWith e none pos.line X.env=pure false:=by rfl):PS X (.Expr e pos) (vc te):=by
 intro pins s σ H D I h
 exact wpAny_Expr_any (thn (d pins s σ H _ I h) λ v i ⟨x,H1,c,g,f⟩=>⟨σ,H1,c,f⟩) I.quiet hs
noncomputable def qZ (te:TE):TS:=λ D σ H=>te σ H D.rt
theorem aR (d:PE X e te):PS X (.Return (some e) pos) (qZ te):=by
 intro pins s σ H D I h
 exact wpAny_Return_some (thn (d pins s σ H _ I h) λ v i ⟨x,H1,c,g,f⟩=>⟨x,σ,H1,c,g,f⟩)
noncomputable def xp:TS:=λ D _ H=>D.rt .non H
theorem ug:PS X (.Return none pos) xp:=λ _ _ σ H _ I h=>wpAny_Return_none ⟨.non,σ,H,I,rfl,h⟩
noncomputable def zc (c:TT) (t u:TS):TS:=λ D σ H=>c σ H λ b H1=>if b=true then t D σ H1 else u D σ H1
theorem bQ (l:PT X c tc) (j:PSs X a t) (k:PSs X b u):PS X (.If c a b pos) (zc tc t u):=by
 intro pins s σ H D I h
 refine wpAny_If (thn (l pins s σ H _ I h) λ d i ⟨H1,f,g⟩=>?_)
 cases d with
 | true=>exact j pins i σ H1 D f g
 | false=>exact k pins i σ H1 D f g
noncomputable def wR:TS:=λ _ _ _=>False
theorem il:PS X st wR:=λ _ _ _ _ _ _ h=>h.elim
end
noncomputable abbrev TG:=V->St->Hp->(St->Hp->Prop)->Prop
noncomputable abbrev TGs:=List V->St->Hp->(St->Hp->Prop)->Prop
noncomputable def PG (X:Cx) (target:Expr) (t:TG):Prop:=
 ∀ (pins:List (Addr×Obj)) (s:Shared) (σ:St) (H:Hp) (v:V) (u:Value) (Q:St->Hp->Prop),Inv X pins σ H s->RelV v u->t v σ H Q ->
  wpAny (model X.prog X.w) X.A (assign target X.env u) (λ _ s'=>∃ σ' H',Inv X pins σ' H' s'/\Q σ' H') X.xe s
noncomputable def PGs (X:Cx) (ts:List Expr) (t:TGs):Prop:=
 ∀ (pins:List (Addr×Obj)) (s:Shared) (σ:St) (H:Hp) (vs:List V) (us:List Value) (Q:St->Hp->Prop),Inv X pins σ H s->Vals vs us->t vs σ H Q ->
  wpAny (model X.prog X.w) X.A (assignInOrder ((assignEach ts X.env).map (·.2)) us) (λ _ s'=>∃ σ' H',Inv X pins σ' H' s'/\Q σ' H') X.xe s
section
variable {X:Cx}{pos:Pos}
noncomputable def cH (i:Nat):TG:=λ v σ H Q=>Q (σ.set i (some v)) H
theorem bq (d:X.N.Nodup) (hi:X.N[i]? = some x) (g:Loc X.env.scope x) (f:X.fn x=true\/X.env.scope.names.lookup x=some .local:=by first|exact .inl rfl|exact .inr rfl|assumption):PG X (.Name x pos) (cH i):=by
 intro pins s σ H v u Q I r h
 exact wpAny_assign_Name (iO I d hi g r (λ j c=>⟨_,H,c,h⟩) f)
noncomputable def Bf:TGs:=λ vs σ H Q=>vs=[]/\Q σ H
noncomputable def yd (t:TG) (u:TGs):TGs:=λ vs σ H Q=>∃ v r,vs=v::r/\t v σ H λ σ' H'=>u r σ' H' Q
theorem hU:PGs X [] Bf:=by
 intro pins s σ H d c Q I r h
 obtain⟨e,h⟩:=h
 subst e
 cases r
 exact assignInOrder_nil ⟨σ,H,I,h⟩
theorem cW (h1:PG X e t) (h2:PGs X es u)
  (hs:(assignEach (e::es) X.env).map (·.2)=assign e X.env::(assignEach es X.env).map (·.2):=by rfl):PGs X (e::es) (yd t u):=by
 intro pins s σ H m k Q I r h
 obtain⟨v,l,f,h⟩:=h
 subst f
 cases r with
 | cons r i=>
  rw[hs]
  refine assignInOrder_cons (thn (h1 pins s σ H _ _ _ I r h) λ _ j ⟨c,H1,d,g⟩=>?_)
  exact h2 pins j c H1 _ _ Q d i g
noncomputable def Ak (K:PySem.W.Frag) (n:Nat) (t:TGs):TG:=λ v σ H Q=>∃ a xs,v=.ref a/\SqT K H a xs/\xs.length=n/\t xs σ H Q
theorem v8 (j:X.calm=true) (h:PGs X es t)
  (m:(assignEach es X.env).length=n:=by rfl) (c:(assignEach es X.env).findIdx? (·.1)=none:=by rfl):PG X (.Tuple es k pos) (Ak X.K n t):=by
 intro pins s σ H v u Q I r d
 obtain⟨a,xs,i,p,l,d⟩:=d
 subst i
 cases r
 obtain⟨z,f,q,A⟩:=I.tuple p
 refine assign_Tuple_tuple (I.ok.hd j) q (by simp[m,<- l,f.length]) c λ h' y=>?_
 have g:Inv X pins σ H { s with heap:=h' }:=I.kept (t':=s.toks) λ b o e=>y b o (BU (Heap.lt_size e)) e
 exact h pins _ σ H xs _ Q g (by simpa using f) d
noncomputable def pM (te:TE) (g:TG):TS:=λ D σ H=>te σ H λ x H1=>g x σ H1 D.nx
theorem aW (f:X.N.Nodup) (hi:X.N[i]? = some x) (k:Loc X.env.scope x) (g:PE X e te) (hs:swapsWith e (some (.Name x pos')) pos.line X.env=pure false:=by rfl) (j:X.fn x=true\/X.env.scope.names.lookup x=some .local:=by first|exact .inl rfl|exact .inr rfl|assumption) :
  PS X (.Assign [.Name x pos'] e pos) (pM te (cH i)):=by
 intro pins s σ H D I h
 refine wpAny_Assign_Name (thn (g pins s σ H _ I h) λ v n ⟨y,H1,c,m,l⟩=>?_) hs
 exact iO c f hi k m (λ p d=>⟨_,H1,d,l⟩) j
end
section
variable {X:Cx}{pos:Pos}
noncomputable def vO (c:TT) (tb:TS):TS:=λ D σ H=>∃ W:Nat->St->Hp->Prop,(∃ m,W m σ H)/\∀ m σ H,W m σ H ->
 c σ H λ b H1=>if b=true then ∃ N:St->Hp->Prop,(∀ σ' H',N σ' H'->∃ m',m'<m/\W m' σ' H')/\tb { D with nx:=N,ct:=N,bk:=D.nx } σ H1 else D.nx σ H1
theorem lZ (C:PassesOwn (model X.prog X.w) X.A X.env X.xe) (J:PT X c tc) (G:PSs X body tb):PS X (.While c body [] pos) (vO tc tb):=by
 intro pins s σ H D I h
 obtain⟨W,⟨K,Q⟩,j⟩:=h
 refine wpAny_While (codeAny_whileLoop (λ n L=>∃ k H',Inv X pins k H' L/\W n k H') ?_ K ⟨σ,H,I,Q⟩)
 rintro n M ⟨g,H1,F,R⟩
 refine DT C (thn (J pins M g H1 _ F (j n g H1 R)) λ b O ⟨H2,A,l⟩=>?_)
 cases b with
 | true=>
  obtain⟨N,B,l⟩:=l
  rw[BN rfl]
  refine DT C (thn (G pins O g H2 _ A l) λ f S m=>?_)
  cases f with
  | next=>
   obtain⟨d,i,p,y⟩:=m
   obtain⟨r,q,z⟩:=B d i y
   exact⟨r,q,d,i,p,z⟩
  | cont=>
   obtain⟨d,i,p,y⟩:=m
   obtain⟨r,q,z⟩:=B d i y
   exact⟨r,q,d,i,p,z⟩
  | brk=>exact m
  | ret v=>exact m
 | false=>
  rw[BI B4]
  exact Fd ⟨g,H2,A,l⟩
end
structure It where
 go:Nat->Hp->Prop
 yld:Nat->Hp->V->Hp->Prop
 stop:Nat->Hp->Prop
noncomputable def iG (X:Cx) (pins:List (Addr×Obj)) (H:Hp) (b:Addr):Prop:=
 H b=none/\b≠X.env.locals/\b∉X.fs/\(b∈X.ex\/X.s₀.heap.objs.size<=b)/\(∀ x c,X.env.cells.lookup x=some c->c≠b)/\∀ p∈X.pn++pins,p.1≠b
theorem Inv.lR (I:Inv X pins σ H s) (d:s.heap.objs.size<=b) (f:H' b=none):iG X pins H' b:=by
 refine⟨f,C5 (BW I.lt d),I.Bv d,.inr (B6 I.sz d),λ x c e z=>?_,λ p g z=>?_⟩
 ·obtain⟨v,q⟩:=I.cell x c e
  exact absurd (BW q.lt (by rw[z];exact d)) (C8 _)
 ·exact absurd (BW (Heap.lt_size (I.pin p g).1) (by rw[z];exact d)) (C8 _)
structure Turn (P:Program) (w:World) (K:PySem.W.Frag) (tg:Expr) (J:It) (fp:List Addr) (it:Addr) (tn:Nat->Heap->Prop):Prop where
 mem:it∈fp
 obj:∀ i h,tn i h->∀ b∈fp,∃ o,h.get? b=some o/\∀ v,o.data≠.cell v
 keep:∀ i h h',tn i h->(∀ b∈fp,∀ o,h.get? b=some o->h'.get? b=some o)->tn i h'
 item:∀ (X:Cx),X.prog=P->X.w=w->X.K=K->X.calm=true->∀ (i:Nat) (pins:List (Addr×Obj)) (s:Shared) (σ:St) (H:Hp) (E:Value->Shared->Prop),Inv X pins σ H s->(∀ b∈fp,iG X pins H b)->tn i s.heap->J.go i H ->
  wpAny (model P w) X.A (pyNext (.ref it)) (λ r s1=>∃ u,r=some u /\
   wpAny (model P w) X.A (letOwnedTupleGo tg (.ref it) u) (λ _ s2=>∃ x H',Inv X pins σ H' s2/\RelV x u/\J.yld i H x H'/\tn (i+1) s2.heap/\∀ b∈fp,H' b=none) E s1) E s
 done:∀ (X:Cx),X.prog=P->X.w=w->X.K=K->X.calm=true->∀ (i:Nat) (pins:List (Addr×Obj)) (s:Shared) (σ:St) (H:Hp) (E:Value->Shared->Prop),Inv X pins σ H s->(∀ b∈fp,iG X pins H b)->tn i s.heap->J.stop i H ->
  wpAny (model P w) X.A (pyNext (.ref it)) (λ r s1=>r=none/\Inv X pins σ H s1) E s
 self:∀ (A:Around) (i:Nat) (s:Shared) (Q:Value->Shared->Prop) (E:Value->Shared->Prop),tn i s.heap->Q (.ref it) s->wpAny (model P w) A (pyIter (.ref it)) Q E s
noncomputable abbrev TI:=St->Hp->(It->Hp->Prop)->Prop
noncomputable def PIE (X:Cx) (pins:List (Addr×Obj)) (σ:St) (tg:Expr) (R:It->Hp->Prop) (itv:Value) (s2:Shared):Prop:=
 ∃ (it:Addr) (fp:List Addr) (tn:Nat->Heap->Prop) (J:It) (H':Hp),itv=.ref it/\Inv X pins σ H' s2/\Turn X.prog X.w X.K tg J fp it tn/\tn 0 s2.heap/\(∀ b∈fp,iG X pins H' b)/\R J H'
noncomputable def PI (X:Cx) (tg iter:Expr) (wi:TI):Prop:=
 ∀ (pins:List (Addr×Obj)) (s:Shared) (σ:St) (H:Hp) (R:It->Hp->Prop),Inv X pins σ H s->wi σ H R ->
  wpAny (model X.prog X.w) X.A (eval iter X.env) (λ v s1=>wpAny (model X.prog X.w) X.A (pyIter v) (PIE X pins σ tg R) X.xe s1) X.xe s
theorem oC (i:s.heap.get? it=some o) (d:o.cls=.type n) (f:o.data=.fields vs)
    (g:["enumerate","zip","dict_itemiterator","dict_reverseitemiterator","odict_iterator","itertools.zip_longest","itertools.pairwise"].contains n=false) (c:Q () s):wpAny M A (letOwnedTupleGo tg (.ref it) u) Q E s:=by
  unfold letOwnedTupleGo
  cases tg<;>first
    | exact BA c
    | (cases u<;>first
        | exact BA c
        | (refine Bx (wpAny_load i ?_)
           rw[d,f]
           show wpAny M A (if (["enumerate","zip","dict_itemiterator","dict_reverseitemiterator","odict_iterator","itertools.zip_longest","itertools.pairwise"].contains n && vs[0]? == some (rawInt _))=true then _ else _) Q E s
           rw[BI (by intro h;rw[g,Bool.false_and] at h;cases h)]
           exact BA c))
noncomputable def Itl (K:PySem.W.Frag) (a:Addr):It:=
 ⟨λ i H=>∃ xs x,SqL K H a xs/\xs[i]? = some x,λ i H x H'=>H'=H/\∀ xs,SqL K H a xs->xs[i]? = some x,λ i H=>∃ xs,SqL K H a xs/\xs.length<=i⟩
noncomputable def Itt (K:PySem.W.Frag) (a:Addr):It:=
 ⟨λ i H=>∃ xs x,SqT K H a xs/\xs[i]? = some x,λ i H x H'=>H'=H/\∀ xs,SqT K H a xs->xs[i]? = some x,λ i H=>∃ xs,SqT K H a xs/\xs.length<=i⟩
noncomputable def Itr (lo:Int) (n:Nat):It:=⟨λ i _=>i<n,λ i H x H'=>H'=H/\x=.int (lo+i),λ i _=>n<=i⟩
theorem pW {P:Program}{w:World}{K:PySem.W.Frag}{W:Expr}(a g:Addr):Turn P w K W (Itl K a) [g] g (λ i h=>h.IsListIter g a i) where
 mem:=by simp
 obj:=λ i h st b f=>by
  have e:b=g:=by simpa using f
  subst e
  obtain⟨o,e,c,d⟩:=st
  exact⟨o,e,λ v z=>by rw[d] at z;cases z⟩
 keep:=λ i h h' st k=>st.at λ o e=>k g (by simp) o e
 item:=by
  intro X C F B M i pins s σ H E I l st D
  subst C F B
  obtain⟨xs,x,m,G⟩:=D
  obtain⟨J,L,p,T⟩:=I.list m
  obtain⟨u,R,U⟩:=L.get G
  obtain⟨n,q,Q,r,y,A⟩:=l g (by simp)
  refine wpAny_pyNext_list_item st p.isList (x:=u) (by simpa using R) λ h' j V=>?_
  have N:Inv X pins σ H { s with heap:=h' }:=I.turned (t':=s.toks) (λ b o f e=>(V.2 b f).trans e) n q r y A
  obtain⟨o,e,c,d⟩:=id j
  exact⟨u,rfl,oC (s:={ s with heap:=h' }) e c d (by decide) ⟨x,H,N,U,⟨rfl,λ ys S=>by rw[I.gi S m];exact G⟩,j,λ b f=>(l b f).1⟩⟩
 done:=by
  intro X C F B M i pins s σ H E I l st D
  subst C F B
  obtain⟨xs,m,G⟩:=D
  obtain⟨J,L,p,T⟩:=I.list m
  obtain⟨n,q,Q,r,y,A⟩:=l g (by simp)
  have Y:=L.length
  exact wpAny_pyNext_list_end (I.ok.hd M) st p.isList (by simp;lia) λ h' O=>⟨rfl,I.turned (t':=s.toks) (λ b o f e=>O b o f e) n q r y A⟩
 self:=λ _ _ _ _ _ st h=>wpAny_pyIter_listiter st h
theorem mF {P:Program}{w:World}{K:PySem.W.Frag}{W:Expr}(a g:Addr):Turn P w K W (Itt K a) [g] g (λ i h=>h.IsTupleIter g a i) where
 mem:=by simp
 obj:=λ i h st b f=>by
  have e:b=g:=by simpa using f
  subst e
  obtain⟨o,e,c,d⟩:=st
  exact⟨o,e,λ v z=>by rw[d] at z;cases z⟩
 keep:=λ i h h' st k=>st.at λ o e=>k g (by simp) o e
 item:=by
  intro X D G C M i pins s σ H E I m st F
  subst D G C
  obtain⟨xs,x,n,J⟩:=F
  obtain⟨j,L,p,T⟩:=I.tuple n
  obtain⟨u,R,U⟩:=L.get J
  obtain⟨q,r,Q,y,A,B⟩:=m g (by simp)
  refine wpAny_pyNext_tuple_item st (show s.heap.IsTuple a j.toArray from p) (x:=u) (by simpa using R) λ h' l V=>?_
  have N:Inv X pins σ H { s with heap:=h' }:=I.turned (t':=s.toks) (λ b o f e=>(V.2 b f).trans e) q r y A B
  obtain⟨o,e,c,d⟩:=id l
  exact⟨u,rfl,oC (s:={ s with heap:=h' }) e c d (by decide) ⟨x,H,N,U,⟨rfl,λ ys S=>by rw[I.qa S n];exact J⟩,l,λ b f=>(m b f).1⟩⟩
 done:=by
  intro X D G C M i pins s σ H E I m st F
  subst D G C
  obtain⟨xs,n,J⟩:=F
  obtain⟨j,L,p,T⟩:=I.tuple n
  obtain⟨q,r,Q,y,A,B⟩:=m g (by simp)
  have Y:=L.length
  exact wpAny_pyNext_tuple_end (I.ok.hd M) st (show s.heap.IsTuple a j.toArray from p) (by simp;lia) λ h' O=>⟨rfl,I.turned (t':=s.toks) (λ b o f e=>O b o f e) q r y A B⟩
 self:=λ _ _ _ _ _ st h=>wpAny_pyIter_tupleiter st h
theorem nv {P:Program}{w:World}{K:PySem.W.Frag}{N:Expr}(c:Addr) (lo:Int) (n:Nat):Turn P w K N (Itr lo n) [c] c (λ i h=>IsRangeIter h c (lo+(i:Nat)*1) ((n:Int)-(i:Nat)) 1) where
 mem:=by simp
 obj:=λ i h st b d=>by
  have e:b=c:=by simpa using d
  subst e
  exact⟨_,st,λ v z=>by
   have O:Data.fields _=Data.cell v:=z
   cases O⟩
 keep:=λ i h h' st k=>k c (by simp) _ st
 item:=by
  intro X y C r A i pins s σ H E I g st B
  subst y C r
  obtain⟨j,l,J,m,p,q⟩:=g c (by simp)
  have W:=Walks.range (prog:=X.prog) (w:=X.w) (I.ok.hd A) c lo 1 n
  refine W.item i s _ _ B st λ v h' D L f M=>?_
  obtain⟨t,rfl⟩:=L
  have F:Inv X pins σ H { s with heap:=h',toks:=D }:=I.turned (λ b o d e=>M b o (by simpa using d) e) j l m p q
  refine⟨_,rfl,oC (s:={ s with heap:=h',toks:=D }) (n:="range_iterator") f rfl rfl (by decide) ⟨.int (lo+i),H,F,⟨t,?_⟩,⟨rfl,rfl⟩,f,λ b d=>(g b d).1⟩⟩
  rw[Int.mul_one]
 done:=by
  intro X y C r A i pins s σ H E I g st B
  subst y C r
  obtain⟨j,l,J,m,p,q⟩:=g c (by simp)
  exact wpAny_pyNext_range_end (I.ok.hd A) st (by have:n<=i:=B;lia) λ h' G=>⟨rfl,I.turned (t':=s.toks) (λ b o d e=>G b o d e) j l m p q⟩
 self:=λ _ _ _ _ _ st h=>wpAny_pyIter_rangeiter st h
section
variable {X:Cx}{tg:Expr}
noncomputable def uG (K:PySem.W.Frag) (tl:TE):TI:=λ σ H R=>tl σ H λ x H1=>∃ a,x=.ref a/\(∃ xs,SqL K H1 a xs)/\R (Itl K a) H1
noncomputable def zN (K:PySem.W.Frag) (tl:TE):TI:=λ σ H R=>tl σ H λ x H1=>∃ a,x=.ref a/\(∃ xs,SqT K H1 a xs)/\R (Itt K a) H1
theorem sY {l:Expr}{f:TE}(i:PE X l f):PI X tg l (uG X.K f):=by
 intro pins s σ H R I h
 refine thn (i pins s σ H _ I h) λ v d ⟨x,H1,c,n,m⟩=>?_
 obtain⟨a,e,⟨xs,j⟩,q⟩:=m
 subst e
 cases n
 obtain⟨k,y,p,r⟩:=c.list j
 refine FA p.isList ?_
 refine⟨d.heap.objs.size,[d.heap.objs.size],_,_,H1,rfl,c.kept (t':=d.toks) λ b o e=>Heap.get?_push_of_some _ e,pW a _,⟨_,Heap.get?_push_size _ rfl,rfl,rfl⟩,λ b g=>?_,q⟩
 have e:b=d.heap.objs.size:=by simpa using g
 subst e
 exact c.lR (Nat.le_refl _) (c.hok.fresh (Nat.le_refl _))
theorem vV {l:Expr}{g:TE}(j:PE X l g):PI X tg l (zN X.K g):=by
 intro pins s σ H R I h
 refine thn (j pins s σ H _ I h) λ v c ⟨x,H1,d,n,m⟩=>?_
 obtain⟨a,e,⟨xs,k⟩,q⟩:=m
 subst e
 cases n
 obtain⟨f,y,p,r⟩:=d.tuple k
 refine wpAny_pyIter_tuple (show c.heap.IsTuple a f.toArray from p) ?_
 refine⟨c.heap.objs.size,[c.heap.objs.size],_,_,H1,rfl,d.kept (t':=c.toks) λ b o e=>Heap.get?_push_of_some _ e,mF a _,⟨_,Heap.get?_push_size _ rfl,rfl,rfl⟩,λ b i=>?_,q⟩
 have e:b=c.heap.objs.size:=by simpa using i
 subst e
 exact d.lR (Nat.le_refl _) (d.hok.fresh (Nat.le_refl _))
theorem qx {pins:List (Addr×Obj)}{σ:St}{H:Hp}{s:Shared}{R:It->Hp->Prop}{E:Value->Shared->Prop}{lo hi:Int}{t u v:Tok}{d:Nat}(I:Inv X pins σ H s) (h1 : -(2 ^ 62)<=lo) (h2:lo<2 ^ 62) (i : -(2 ^ 62)<=hi) (j:hi<2 ^ 62)
  (q:R (Itr lo (hi-lo).toNat) H):wpAny (model X.prog X.w) X.A (pyIter (.ref s.heap.objs.size)) (PIE X pins σ tg R) E { s with heap:=s.heap.push { cls:=.type "range",data:=.fields #[.int lo t,.int hi u,.int 1 v] },toks:=d }:=by
 refine wpAny_pyIter_range (IsRange.new ..) (small_one h1 h2 i j) ?_
 have c:Inv X pins σ H { s with heap:=s.heap.push { cls:=.type "range",data:=.fields #[.int lo t,.int hi u,.int 1 v] },toks:=d }:=I.kept λ b o e=>Heap.get?_push_of_some _ e
 refine⟨(s.heap.push { cls:=.type "range",data:=.fields #[.int lo t,.int hi u,.int 1 v] }).objs.size,[(s.heap.push { cls:=.type "range",data:=.fields #[.int lo t,.int hi u,.int 1 v] }).objs.size],_,_,H,rfl,
  c.kept (t':=d) λ b o e=>Heap.get?_push_of_some _ e,nv _ lo (hi-lo).toNat,?_,λ b k=>?_,q⟩
 ·have f:lo+((0:Nat):Int)*1=lo:=by simp
  have g:(((hi-lo).toNat:Nat):Int)-((0:Nat):Int)=Builtin.Range.rangeSize lo hi 1:=by rw[rangeSize_one];split<;>lia
  show IsRangeIter _ _ (lo+((0:Nat):Int)*1) ((((hi-lo).toNat:Nat):Int)-((0:Nat):Int)) 1
  rw[f,g]
  exact Heap.get?_push_size _ rfl
 ·have e:b=(s.heap.push { cls:=.type "range",data:=.fields #[.int lo t,.int hi u,.int 1 v] }).objs.size:=by simpa using k
  subst e
  exact c.lR (Nat.le_refl _) (c.hok.fresh (Nat.le_refl _))
noncomputable def vh (ta:TA):TI:=λ σ H R=>ta σ H λ vs H1=>∃ j:Int,vs=[.int j] /\ -(2 ^ 62)<=j/\j<2 ^ 62/\R (Itr 0 j.toNat) H1
theorem bS {a:Expr}{ta:TA}{p pos:Pos}(g:Gl X "range") (i:X.mg "range" = none) (f:PA X [a] ta) (hs:starEach [a] X.env=[(false,eval a X.env)]:=by rfl):PI X tg (.Call (.Name "range" p) [a] [] pos) (vh ta):=by
 intro pins s σ H R I h
 refine Call_ (gH I g i boot_range (DX (thn (f pos pins s σ H _ I h) λ v n ⟨y,H1,d,l,c⟩=>?_) hs rfl))
 obtain⟨j,e,c,k,q⟩:=c
 subst e
 cases l with
 | cons r m=>
  cases m
  obtain⟨t,rfl⟩:=r
  exact call_range_1 (qx d (by lia) (by lia) c k (by simpa using q))
noncomputable def A7 (wi:TI) (g:TG) (tb:TS):TS:=λ D σ H=>wi σ H λ J H1=>∃ W:Nat->Nat->St->Hp->Prop,(∃ m,W 0 m σ H1)/\∀ i m σ H,W i m σ H ->
 (J.stop i H/\D.nx σ H)\/(J.go i H/\∃ N:St->Hp->Prop,(∀ σ' H',N σ' H'->∃ m',m'<m/\W (i+1) m' σ' H')/\∀ x H',J.yld i H x H'->g x σ H' λ σ2 H2=>tb { D with nx:=N,ct:=N,bk:=D.nx } σ2 H2)
noncomputable def kM (fp:List Addr) (h:Heap):List (Addr×Obj):=fp.filterMap λ b=>(h.get? b).map λ o=>(b,o)
theorem et (c:b∈fp) (e:h.get? b=some o):(b,o)∈kM fp h:=Fv.mpr ⟨b,c,by rw[e];rfl⟩
theorem pV (f:p∈kM fp h):p.1∈fp/\h.get? p.1=some p.2:=by
 obtain⟨b,d,e⟩:=Fv.mp f
 cases q:h.get? b with
 | none=>rw[q] at e;cases e
 | some o=>
  rw[q] at e
  have c:(b,o)=p:=Option.some.inj e
  subst c
  exact⟨d,q⟩
theorem Inv.pinned (I:Inv X pins σ H s) (l:∀ b∈f,iG X pins H b) (m:∀ b∈f,∃ o,s.heap.get? b=some o/\∀ v,o.data≠.cell v):Inv X (pins++kM f s.heap) σ H s:=
 I.o8 λ p n=>(BH.mp n).elim (λ z=>I.pin p (BG _ z)) λ z=>by
  obtain⟨g,e⟩:=pV z
  obtain⟨i,j,k,_⟩:=l p.1 g
  obtain⟨o,c,d⟩:=m p.1 g
  rw[e] at c;cases c
  exact⟨e,i,j,k,d⟩
theorem Inv.gm (I:Inv X (pins++pl) σ H s):Inv X pins σ H s:=I.o8 λ p c=>I.pin p (BG _ (BS _ c))
theorem cZ {iter:Expr}{body:List Stmt}{wi:TI}{g:TG}{tb:TS}{pos:Pos}(hp:PassesOwn (model X.prog X.w) X.A X.env X.xe) (hc:X.calm=true) (hi:PI X tg iter wi) (hg:PG X tg g) (hb:PSs X body tb)
  (hs:∀ x,foldedSetIterable iter X.env x=pure x:=by intro _;rfl):PS X (.For tg iter body [] pos) (A7 wi g tb):=by
 intro pins s σ H D I h
 refine wpAny_For (thn (hi pins s σ H _ I h) λ v s1 h1=>thn h1 λ itv s2 h2=>?_) hs
 obtain⟨it,fp,tn,J,H2,e,I2,T,st2,f2,W,⟨m0,w0⟩,turn⟩:=h2
 subst e
 have stat:∀ {H':Hp},(∀ b∈fp,H' b=none)->∀ b∈fp,iG X pins H' b:=λ hn b hb=>⟨hn b hb,(f2 b hb).2⟩
 refine codeAny_forLoop_any (λ n s'=>∃ i σ' H',Inv X pins σ' H' s'/\tn i s'.heap/\(∀ b∈fp,H' b=none)/\W i n σ' H') ?_ m0 ⟨0,σ,H2,I2,st2,λ b hb=>(f2 b hb).1,w0⟩
 rintro n s3 ⟨i,σ3,H3,I3,st3,fr3,w3⟩
 rcases turn i n σ3 H3 w3 with ⟨stop,qn⟩|⟨go,N,hN,step⟩
 ·refine DT hp (thn (T.done X rfl rfl rfl hc i pins s3 σ3 H3 X.xe I3 (stat fr3) st3 stop) λ r s4 ⟨hr,I4⟩=>?_)
  subst hr
  exact Fd ⟨σ3,H3,I4,qn⟩
 ·refine DT hp (thn (T.item X rfl rfl rfl hc i pins s3 σ3 H3 X.xe I3 (stat fr3) st3 go) λ r s4 ⟨u,hr,h4⟩=>?_)
  subst hr
  refine DT hp (thn h4 λ _ s5 ⟨x,H5,I5,r5,y5,st5,fr5⟩=>?_)
  have I5':=I5.pinned (stat fr5) (T.obj _ _ st5)
  refine DT hp (thn (hg _ s5 σ3 H5 x u _ I5' r5 (step x H5 y5)) λ _ s6 ⟨σ6,H6,I6,q6⟩=>?_)
  refine DT hp (thn (hb _ s6 σ6 H6 _ I6 q6) λ f s7 q7=>?_)
  have again:∀ {σ7:St} {H7:Hp},Inv X (pins++kM fp s5.heap) σ7 H7 s7->N σ7 H7->∃ m,m<n/\∃ i σ' H',Inv X pins σ' H' s7/\tn i s7.heap/\(∀ b∈fp,H' b=none)/\W i m σ' H':=λ{σ7 H7} I7 n7=>by
   obtain⟨m',hm,w7⟩:=hN σ7 H7 n7
   refine⟨m',hm,i+1,σ7,H7,I7.gm,T.keep _ _ _ st5 λ b hb o e=>(I7.pin (b,o) (BG _ (BG _ (et hb e)))).1,λ b hb=>?_,w7⟩
   obtain⟨o,e,d⟩:=T.obj _ _ st5 b hb
   exact(I7.pin (b,o) (BG _ (BG _ (et hb e)))).2.1
  cases f with
  | next=>obtain⟨σ7,H7,I7,n7⟩:=q7;exact again I7 n7
  | cont=>obtain⟨σ7,H7,I7,n7⟩:=q7;exact again I7 n7
  | brk=>obtain⟨σ7,H7,I7,q7⟩:=q7;exact⟨σ7,H7,I7.gm,q7⟩
  | ret v=>obtain⟨x7,σ7,H7,I7,r7,q7⟩:=q7;exact⟨x7,σ7,H7,I7.gm,r7,q7⟩
end
theorem kX {K:PySem.W.Frag}{a:Addr}{xs:List V}{g:TG}{tb:TS}{D:Ends}{σ:St}{H:Hp}(Pv:Nat->St->Hp->Prop) (h0:Pv 0 σ H) (hl:∀ i σ H,i<=xs.length->Pv i σ H->SqL K H a xs)
  (hs:∀ i x σ H,xs[i]? = some x->Pv i σ H->g x σ H λ σ2 H2=>tb { D with nx:=Pv (i+1),ct:=Pv (i+1),bk:=D.nx } σ2 H2) (hd:∀ σ H,Pv xs.length σ H->D.nx σ H) :
  ∃ W:Nat->Nat->St->Hp->Prop,(∃ m,W 0 m σ H)/\∀ i m σ H,W i m σ H ->
   ((Itl K a).stop i H/\D.nx σ H)\/((Itl K a).go i H/\∃ N:St->Hp->Prop,(∀ σ' H',N σ' H'->∃ m',m'<m/\W (i+1) m' σ' H')/\∀ x H',(Itl K a).yld i H x H'->g x σ H' λ σ2 H2=>tb { D with nx:=N,ct:=N,bk:=D.nx } σ2 H2):=by
 refine⟨λ i m σ H=>m=xs.length-i/\i<=xs.length/\Pv i σ H,⟨xs.length,by simp,Cf _,h0⟩,?_⟩
 rintro i m σ H ⟨rfl,hi,p⟩
 have q:=hl i σ H hi p
 by_cases hlt:i<xs.length
 ·refine .inr ⟨⟨xs,xs[i],q,by simp[hlt]⟩,Pv (i+1),λ σ' H' p'=>⟨xs.length-(i+1),by lia,rfl,hlt,p'⟩,λ x H' y=>?_⟩
  obtain⟨e,y⟩:=y
  subst e
  exact hs i x σ _ (y xs q) p
 ·have e:i=xs.length:=by lia
  subst e
  exact .inl ⟨⟨xs,q,Nat.le_refl _⟩,hd σ H p⟩
theorem cS {lo:Int}{n:Nat}{g:TG}{tb:TS}{D:Ends}{σ:St}{H:Hp}(Pv:Nat->St->Hp->Prop) (h0:Pv 0 σ H)
  (hs:∀ i σ H,i<n->Pv i σ H->g (.int (lo+i)) σ H λ σ2 H2=>tb { D with nx:=Pv (i+1),ct:=Pv (i+1),bk:=D.nx } σ2 H2) (hd:∀ σ H,Pv n σ H->D.nx σ H) :
  ∃ W:Nat->Nat->St->Hp->Prop,(∃ m,W 0 m σ H)/\∀ i m σ H,W i m σ H ->
   ((Itr lo n).stop i H/\D.nx σ H)\/((Itr lo n).go i H/\∃ N:St->Hp->Prop,(∀ σ' H',N σ' H'->∃ m',m'<m/\W (i+1) m' σ' H')/\∀ x H',(Itr lo n).yld i H x H'->g x σ H' λ σ2 H2=>tb { D with nx:=N,ct:=N,bk:=D.nx } σ2 H2):=by
 refine⟨λ i m σ H=>m=n-i/\i<=n/\Pv i σ H,⟨n,by simp,Cf _,h0⟩,?_⟩
 rintro i m σ H ⟨rfl,hi,p⟩
 by_cases hlt:i<n
 ·refine .inr ⟨hlt,Pv (i+1),λ σ' H' p'=>⟨n-(i+1),by lia,rfl,hlt,p'⟩,λ x H' y=>?_⟩
  obtain⟨e,y⟩:=y
  subst e y
  exact hs i σ _ hlt p
 ·have e:i=n:=by lia
  subst e
  exact .inl ⟨Nat.le_refl _,hd σ H p⟩
noncomputable abbrev R2:=V->V->Hp->VK->Prop
noncomputable def OpR (X:Cx) (f:Value->Value->Sem Value) (r:R2):Prop:=
 ∀ (pins:List (Addr×Obj)) (s:Shared) (σ:St) (H:Hp) (x y:V) (v u:Value) (Q:VK),Inv X pins σ H s->RelV x v->RelV y u->r x y H Q ->
  wpAny (model X.prog X.w) X.A (f v u) (EP X pins σ Q) X.xe s
noncomputable def UnR (X:Cx) (f:Value->Sem Value) (r:V->Hp->VK->Prop):Prop:=
 ∀ (pins:List (Addr×Obj)) (s:Shared) (σ:St) (H:Hp) (x:V) (v:Value) (Q:VK),Inv X pins σ H s->RelV x v->r x H Q ->
  wpAny (model X.prog X.w) X.A (f v) (EP X pins σ Q) X.xe s
noncomputable def cx (X:Cx) (f:Value) (r:List V->Hp->VK->Prop):Prop:=
 ∀ (pins:List (Addr×Obj)) (s:Shared) (σ:St) (H:Hp) (xs:List V) (us:List Value) (Q:VK),Inv X pins σ H s->Vals xs us->r xs H Q ->
  wpAny (model X.prog X.w) X.A (call f us) (EP X pins σ Q) X.xe s
noncomputable def Bw (X:Cx) (r:V->Hp->(Bool->Hp->Prop)->Prop):Prop:=
 ∀ (pins:List (Addr×Obj)) (s:Shared) (σ:St) (H:Hp) (x:V) (v:Value) (Q:Bool->Hp->Prop),Inv X pins σ H s->RelV x v->r x H Q ->
  wpAny (model X.prog X.w) X.A (truthy v) (TP X pins σ Q) X.xe s
noncomputable def tOp (r:R2) (ta tb:TE):TE:=λ σ H Q=>ta σ H λ x H1=>tb σ H1 λ y H2=>r x y H2 Q
noncomputable def tUn (r:V->Hp->VK->Prop) (ta:TE):TE:=λ σ H Q=>ta σ H λ x H1=>r x H1 Q
noncomputable def rI (C:Int->Int->Prop) (g:Int->Int->V):R2:=λ x y H Q=>∃ i j,x=.int i/\y=.int j/\C i j/\Q (g i j) H
noncomputable def rI0 (g:Int->Int->V):R2:=λ x y H Q=>∃ i j,x=.int i/\y=.int j/\Q (g i j) H
noncomputable def rU (g:Int->V):V->Hp->VK->Prop:=λ x H Q=>∃ i,x=.int i/\Q (g i) H
section
variable {X:Cx}{a b c:Expr}{ta tb tc:TE}{pos:Pos}
theorem vZ (l:PE X a ta) (m:PE X b tb) {pins:List (Addr×Obj)}{s:Shared}{σ:St}{H:Hp}{R:V->V->Hp->Prop}(I:Inv X pins σ H s)
  (h:ta σ H λ x H1=>tb σ H1 λ y H2=>R x y H2) {Q:Value->Shared->Prop} {f:Value->Value->Sem Value}
  (n:∀ v u i x y H2,Inv X pins σ H2 i->RelV x v->RelV y u->R x y H2->wpAny (model X.prog X.w) X.A (f v u) Q X.xe i) :
  wpAny (model X.prog X.w) X.A (eval a X.env) (λ v d=>wpAny (model X.prog X.w) X.A (eval b X.env) (λ u g=>wpAny (model X.prog X.w) X.A (f v u) Q X.xe g) X.xe d) X.xe s:=by
 refine thn (l pins s σ H _ I h) λ v A ⟨x,H1,j,r,p⟩=>?_
 refine thn (m pins A σ H1 _ j p) λ u i ⟨y,H2,k,z,q⟩=>?_
 exact n v u i x y H2 k r z q
theorem ba {op:Operator}{r:R2}(i:OpR X (binaryOp op) r) (f:PE X a ta) (g:PE X b tb):PE X (.BinOp a op b pos) (tOp r ta tb):=by
 intro pins s σ H Q I h
 exact wpAny_BinOp (vZ f g I h λ v u l x y H2 d j k q=>i pins l σ H2 x y v u Q d j k q)
theorem oA (g:UnR X (unaryOp op) r) (f:PE X a ta):PE X (.UnaryOp op a pos) (tUn r ta):=by
 intro pins s σ H Q I h
 exact UnaryOp_ (thn (f pins s σ H _ I h) λ v k ⟨x,H1,d,j,i⟩=>g pins k σ H1 x v Q d j i)
theorem opI {f:Value->Value->Sem Value}{C:Int->Int->Prop}{g:Int->Int->Int}
  (d:∀ (i j:Int) (t u:Tok) (s:Shared) (Q:Value->Shared->Prop) (E:Value->Shared->Prop),C i j->Q (.int (g i j) s.toks) { s with toks:=s.toks+1 }->wpAny (model X.prog X.w) X.A (f (.int i t) (.int j u)) Q E s) :
  OpR X f (rI C λ i j=>.int (g i j)):=by
 intro pins s σ H x y v u Q I l m h
 obtain⟨i,j,rfl,rfl,k,q⟩:=h
 obtain⟨t,rfl⟩:=l
 obtain⟨n,rfl⟩:=m
 exact d i j t n s _ _ k ⟨.int (g i j),H,I.tok _,⟨_,rfl⟩,q⟩
theorem AV {f:Value->Value->Sem Value}{g:Int->Int->Int}
  (d:∀ (i j:Int) (t u:Tok) (s:Shared) (Q:Value->Shared->Prop) (E:Value->Shared->Prop),Q (.int (g i j) s.toks) { s with toks:=s.toks+1 }->wpAny (model X.prog X.w) X.A (f (.int i t) (.int j u)) Q E s) :
  OpR X f (rI0 λ i j=>.int (g i j)):=by
 intro pins s σ H x y v u Q I k l h
 obtain⟨i,j,rfl,rfl,q⟩:=h
 obtain⟨t,rfl⟩:=k
 obtain⟨m,rfl⟩:=l
 exact d i j t m s _ _ ⟨.int (g i j),H,I.tok _,⟨_,rfl⟩,q⟩
theorem tH {f:Value->Value->Sem Value}{g:Int->Int->Bool}
  (d:∀ (i j:Int) (t u:Tok) (s:Shared) (Q:Value->Shared->Prop) (E:Value->Shared->Prop),Q (.bool (g i j)) s->wpAny (model X.prog X.w) X.A (f (.int i t) (.int j u)) Q E s) :
  OpR X f (rI0 λ i j=>.bl (g i j)):=by
 intro pins s σ H x y v u Q I k l h
 obtain⟨i,j,rfl,rfl,q⟩:=h
 obtain⟨t,rfl⟩:=k
 obtain⟨m,rfl⟩:=l
 exact d i j t m s _ _ ⟨.bl (g i j),H,I,rfl,q⟩
noncomputable def mf (i j:Int):Prop:=0<j/\j<1073741824
noncomputable def lE (i j:Int):Prop:=(-(2 ^ 64)<i/\i<2 ^ 64)\/(-(2 ^ 64)<j/\j<2 ^ 64)
theorem lE.ok (h:lE i j):IntMulOk i j:=by
 rcases h with ⟨h1,h2⟩|⟨h1,h2⟩
 ·exact .of_left (intBits_le_64 h1 h2)
 ·exact .of_right (intBits_le_64 h1 h2)
theorem da:OpR X (binaryOp .Add) (rI0 λ i j=>.int (i+j)):=AV λ _ _ _ _ _ _ _ q=>add_int q
theorem qG:OpR X (binaryOp .Sub) (rI0 λ i j=>.int (i-j)):=AV λ _ _ _ _ _ _ _ q=>sub_int q
theorem fM:OpR X (binaryOp .Mult) (rI lE λ i j=>.int (i*j)):=opI λ _ _ _ _ _ _ _ d q=>mul_int q d.ok
theorem cp:OpR X (binaryOp .FloorDiv) (rI mf λ i j=>.int (i/j)):=opI λ i j _ _ _ _ _ d q=>by
 have h1:(0:Int)<j:=d.1
 have h2:j<1073741824:=d.2
 exact floordiv_int (by lia) (by rw[Int.fdiv_eq_ediv_of_nonneg i (by lia)];exact q) (.inl (PyProof.noPylong_small (by lia)))
theorem b7:OpR X (binaryOp .Mod) (rI (λ _ j=>0<j) λ i j=>.int (i%j)):=opI λ i j _ _ _ _ _ d q=>by
 have h1:(0:Int)<j:=d
 exact mod_int' (by lia) (by rw[Int.fmod_eq_emod_of_nonneg i (by lia)];exact q)
theorem unI {f:Value->Sem Value}{g:Int->Int}
  (d:∀ (i:Int) (t:Tok) (s:Shared) (Q:Value->Shared->Prop) (E:Value->Shared->Prop),Q (.int (g i) s.toks) { s with toks:=s.toks+1 }->wpAny (model X.prog X.w) X.A (f (.int i t)) Q E s) :
  UnR X f (rU λ i=>.int (g i)):=by
 intro pins s σ H x v Q I j h
 obtain⟨i,rfl,q⟩:=h
 obtain⟨t,rfl⟩:=j
 exact d i t s _ _ ⟨.int (g i),H,I.tok _,⟨_,rfl⟩,q⟩
theorem kN:UnR X (unaryOp .USub) (rU λ i=>.int (-i)):=unI λ _ _ _ _ _ q=>neg_int q
end
noncomputable def yj:V->V->Bool
 | .non,.non=>true | .non,.int _=>true | .int _,.non=>true | .non,.bl _=>true | .bl _,.non=>true | .non,.str _=>true | .str _,.non=>true
 | .int _,.int _=>true | .bl _,.bl _=>true | .str _,.str _=>true | .byt _,.byt _=>true
 | .int _,.str _=>true | .str _,.int _=>true | .bl _,.str _=>true | .str _,.bl _=>true
 | _,_=>false
noncomputable def rEq:R2:=λ x y H Q=>yj x y=true/\Q (.bl (decide (x=y))) H
noncomputable def rNe:R2:=λ x y H Q=>yj x y=true/\Q (.bl (!decide (x=y))) H
theorem kS:decide (V.int i=V.int j)=(i == j):=by
 rw[DV]
 simp
theorem qE:decide (V.bl i=V.bl j)=(i == j):=by
 rw[DV]
 simp
theorem oa:decide (V.str i=V.str j)=(i == j):=by
 rw[DV]
 simp
theorem oX:decide (V.byt i=V.byt j)=(i.toList == j.toList):=by
 rw[DV]
 cases i
 cases j
 simp
section
variable {X:Cx}{a b c:Expr}{ta tb tc:TE}{pos:Pos}
theorem bE (I:Inv X pins σ H s) (q:Q (.bl k) H) (e:k=k'):EP X pins σ Q (.bool k') s:=by
 subst e
 exact⟨.bl k,H,I,rfl,q⟩
theorem i4:OpR X (compareOp .Eq) rEq:=by
 intro pins s σ H x y v u Q I rx ry h
 obtain⟨hs,q⟩:=h
 cases x with
 | non=>
  cases rx
  cases y with
  | non=>cases ry;exact PySem.EqNone.eq_none_none (bE I q (by simp))
  | bl j=>cases ry;exact PySem.EqNone.eq_none_bool (bE I q (by simp))
  | int j=>obtain⟨t',rfl⟩:=ry;exact PySem.EqNone.eq_none_int (bE I q (by simp))
  | str j=>obtain⟨t',rfl⟩:=ry;exact PySem.EqNone.eq_none_str (bE I q (by simp))
  | _=>exact absurd (show false=true from hs) B4
 | bl i=>
  cases rx
  cases y with
  | non=>cases ry;exact PySem.EqNone.eq_bool_none (bE I q (by simp))
  | bl j=>cases ry;exact eq_bool (bE I q qE)
  | str j=>obtain⟨t',rfl⟩:=ry;exact PySem.EqMixed.eq_bool_str (bE I q (by simp))
  | _=>exact absurd (show false=true from hs) B4
 | int i=>
  obtain⟨t,rfl⟩:=rx
  cases y with
  | non=>cases ry;exact PySem.EqNone.eq_int_none (bE I q (by simp))
  | int j=>obtain⟨t',rfl⟩:=ry;exact eq_int (bE I q kS)
  | str j=>obtain⟨t',rfl⟩:=ry;exact PySem.EqMixed.eq_int_str (bE I q (by simp))
  | _=>exact absurd (show false=true from hs) B4
 | str i=>
  obtain⟨t,rfl⟩:=rx
  cases y with
  | non=>cases ry;exact PySem.EqNone.eq_str_none (bE I q (by simp))
  | bl j=>cases ry;exact PySem.EqMixed.eq_str_bool (bE I q (by simp))
  | int j=>obtain⟨t',rfl⟩:=ry;exact PySem.EqMixed.eq_str_int (bE I q (by simp))
  | str j=>obtain⟨t',rfl⟩:=ry;exact eq_str (bE I q oa)
  | _=>exact absurd (show false=true from hs) B4
 | byt i=>
  obtain⟨t,rfl⟩:=rx
  cases y with
  | byt j=>obtain⟨t',rfl⟩:=ry;exact PySem.W.eq_bytes (bE I q oX)
  | _=>exact absurd (show false=true from hs) B4
 | _=>cases y<;>exact absurd (show false=true from hs) B4
theorem rN:OpR X (compareOp .NotEq) rNe:=by
 intro pins s σ H x y v u Q I rx ry h
 obtain⟨hs,q⟩:=h
 cases x with
 | non=>
  cases rx
  cases y with
  | non=>cases ry;exact PySem.EqNone.ne_none_none (bE I q (by simp))
  | bl j=>cases ry;exact PySem.EqNone.ne_none_bool (bE I q (by simp))
  | int j=>obtain⟨t',rfl⟩:=ry;exact PySem.EqNone.ne_none_int (bE I q (by simp))
  | str j=>obtain⟨t',rfl⟩:=ry;exact PySem.EqNone.ne_none_str (bE I q (by simp))
  | _=>exact absurd (show false=true from hs) B4
 | bl i=>
  cases rx
  cases y with
  | non=>cases ry;exact PySem.EqNone.ne_bool_none (bE I q (by simp))
  | bl j=>cases ry;exact ne_bool (bE I q (congrArg not qE))
  | str j=>obtain⟨t',rfl⟩:=ry;exact PySem.EqMixed.ne_bool_str (bE I q (by simp))
  | _=>exact absurd (show false=true from hs) B4
 | int i=>
  obtain⟨t,rfl⟩:=rx
  cases y with
  | non=>cases ry;exact PySem.EqNone.ne_int_none (bE I q (by simp))
  | int j=>obtain⟨t',rfl⟩:=ry;exact ne_int (bE I q (congrArg not kS))
  | str j=>obtain⟨t',rfl⟩:=ry;exact PySem.EqMixed.ne_int_str (bE I q (by simp))
  | _=>exact absurd (show false=true from hs) B4
 | str i=>
  obtain⟨t,rfl⟩:=rx
  cases y with
  | non=>cases ry;exact PySem.EqNone.ne_str_none (bE I q (by simp))
  | bl j=>cases ry;exact PySem.EqMixed.ne_str_bool (bE I q (by simp))
  | int j=>obtain⟨t',rfl⟩:=ry;exact PySem.EqMixed.ne_str_int (bE I q (by simp))
  | str j=>obtain⟨t',rfl⟩:=ry;exact ne_str (bE I q (congrArg not oa))
  | _=>exact absurd (show false=true from hs) B4
 | byt i=>
  obtain⟨t,rfl⟩:=rx
  cases y with
  | byt j=>obtain⟨t',rfl⟩:=ry;exact PySem.W.ne_bytes (bE I q (congrArg not oX))
  | _=>exact absurd (show false=true from hs) B4
 | _=>cases y<;>exact absurd (show false=true from hs) B4
theorem o9:OpR X (compareOp .Lt) (rI0 λ i j=>.bl (decide (i<j))):=tH λ _ _ _ _ _ _ _ q=>lt_int q
theorem qO:OpR X (compareOp .LtE) (rI0 λ i j=>.bl (decide (i<=j))):=tH λ _ _ _ _ _ _ _ q=>le_int q
theorem oR:OpR X (compareOp .Gt) (rI0 λ i j=>.bl (decide (j<i))):=tH λ _ _ _ _ _ _ _ q=>gt_int q
theorem oy:OpR X (compareOp .GtE) (rI0 λ i j=>.bl (decide (j<=i))):=tH λ _ _ _ _ _ _ _ q=>ge_int q
theorem kD:OpR X (compareOp .IsNot) (λ x y H Q=>y=.non/\Q (.bl (!decide (x=.non))) H):=by
 intro pins s σ H x y v u Q I d f h
 obtain⟨rfl,q⟩:=h
 cases f
 refine isnot_none_gen (bE I q ?_)
 cases x<;>first
  | (cases d;rfl)
  | (obtain⟨t,rfl⟩:=d;rfl)
theorem bD (b:Expr) (h:op≠.In:=by decide) (h2:op≠.NotIn:=by decide):behindInMarks op b=false:=by
 have d:(op == CmpOp.In)=false:=by cases op<;>first|rfl|exact absurd rfl h
 have f:(op == CmpOp.NotIn)=false:=by cases op<;>first|rfl|exact absurd rfl h2
 cases b<;>simp[behindInMarks,d,f]
theorem cU {op:CmpOp}{r:R2}(j:OpR X (compareOp op) r) (f:PE X a ta) (g:PE X b tb) (i:behindInMarks op b=false):PE X (.Compare a [op] [b] pos) (tOp r ta tb):=by
 intro pins s σ H Q I h
 exact wpAny_Compare1 (vZ f g I h λ v u m x y H2 d k l q=>j pins m σ H2 x y v u Q d k l q) i
noncomputable def va (t:TE):TT:=λ σ H Q=>t σ H λ x H'=>∃ k,x=.bl k/\Q k H'
theorem bA (n:OpR X (compareOp op) r) (j:PE X a ta) (l:PE X b tb) (m:behindInMarks op b=false):PT X (.Compare a [op] [b] pos) (va (tOp r ta tb)):=by
 intro pins s σ H Q I h
 refine wpAny_isTrue_Compare1 (thn (j pins s σ H _ I h) λ v F ⟨x,H1,f,B,p⟩=>thn (l pins F σ H1 _ f p) λ u G ⟨y,H2,g,C,q⟩=>
  thn (n pins G σ H2 x y v u _ g B C q) λ c J ⟨z,d,i,D,k,e,A⟩=>?_) m
 subst e
 cases D
 exact C9 ⟨d,i,A⟩
noncomputable def vz (K:PySem.W.Frag) (x:V) (H:Hp) (k:Bool):Prop:=
 match x with
 | .non=>k=false
 | .bl b=>k=b
 | .int i=>k=(i != 0)
 | .str y=>y.length<=sizeLine/\k=((y.length:Int) != 0)
 | .byt y=>y.size<=sizeLine/\k=((y.size:Int) != 0)
 | .ref p=>(∃ xs,SqL K H p xs/\k = !xs.isEmpty)\/(∃ xs,SqT K H p xs/\k = !xs.isEmpty)\/∃ kvs,H p=some (.dK kvs)/\k = !kvs.isEmpty
 | _=>False
theorem nD (r:KV kvs vs):(!vs.isEmpty) = !kvs.isEmpty:=by
 cases r<;>rfl
theorem i6 (r:Vals xs its):(!its.toArray.isEmpty) = !xs.isEmpty:=by
 cases r<;>simp
theorem jY:(sizeLine:Nat)<2 ^ 63:=by rw[DE];decide
theorem vJ:Bw X (λ x H Q=>∃ k,vz X.K x H k/\Q k H):=by
 intro pins s σ H x v Q I rx h
 obtain⟨k,e,q⟩:=h
 have hl:=jY
 have hs:sizeLine=16777216:=DE
 cases x with
 | non=>
  cases rx
  have e':k=false:=e
  subst e'
  exact truthy_none ⟨H,I,q⟩
 | bl b=>
  cases rx
  have e':k=b:=e
  subst e'
  exact C9 ⟨H,I,q⟩
 | int i=>
  obtain⟨t,rfl⟩:=rx
  have e':k=(i != 0):=e
  subst e'
  exact PySem.P.truthy_int ⟨H,I,q⟩
 | str y=>
  obtain⟨t,rfl⟩:=rx
  obtain⟨hy,e'⟩:y.length<=sizeLine/\k=((y.length:Int) != 0):=e
  subst e'
  exact PySem.P.truthy_str (by lia) ⟨H,I.tok _,q⟩
 | byt y=>
  obtain⟨t,rfl⟩:=rx
  obtain⟨hy,e'⟩:y.size<=sizeLine/\k=((y.size:Int) != 0):=e
  subst e'
  exact PySem.W.truthy_bytes (by lia) ⟨H,I.tok _,q⟩
 | ref p=>
  cases rx
  have e':(∃ xs,SqL X.K H p xs/\k = !xs.isEmpty)\/(∃ xs,SqT X.K H p xs/\k = !xs.isEmpty)\/∃ kvs,H p=some (.dK kvs)/\k = !kvs.isEmpty:=e
  rcases e' with ⟨xs,hx,e'⟩|⟨xs,hx,e'⟩|⟨kvs,hx,e'⟩
  ·subst e'
   obtain⟨its,r,pl,hz⟩:=I.list hx
   have hlen:=r.length
   exact wpAny_truthy_list pl.isList (by simp only[B9];lia) ⟨H,I.tok _,by rw[i6 r];exact q⟩
  ·subst e'
   obtain⟨its,r,pl,hz⟩:=I.tuple hx
   have hlen:=r.length
   exact truthy_tuple pl (by simp only[B9];lia) ⟨H,I.tok _,by rw[i6 r];exact q⟩
  ·subst e'
   obtain⟨hz,hS,vs,r,m⟩:kvs.length<=sizeLine/\(p == sysModules)=false/\∃ vs,KV kvs vs/\s.heap.DictOf (bO X.prog X.w) p vs:=I.hok p _ hx
   have hlen:kvs.length=vs.length:=Paired.length r
   exact wpAny_truthy_dict hS m (by lia) ⟨H,I.tok _,by rw[nD r];exact q⟩
 | _=>exact(show False from e).elim
theorem rm (ha:PE X a ta) (he:∀ whole,isTrue a X.env whole=(do let v <- whole;standAt a.pos;holding [v] (truthy v))) :
  PT X a (λ σ H Q=>ta σ H λ x H'=>∃ k,vz X.K x H' k/\Q k H'):=by
 intro pins s σ H Q I h
 exact isTrue_plain (thn (ha pins s σ H _ I h) λ v s1 ⟨x,H1,I1,r1,q1⟩=>vJ pins s1 σ H1 x v Q I1 r1 q1) (he _)
theorem vals1 (r:Vals [x] us):∃ u,us=[u]/\RelV x u:=by
 cases r with
 | cons d f=>cases f;exact⟨_,rfl,d⟩
theorem vals2 (r:Vals [x,y] us):∃ u d,us=[u,d]/\RelV x u/\RelV y d:=by
 cases r with
 | cons f g=>
  cases g with
  | cons i j=>cases j;exact⟨_,_,rfl,f,i⟩
theorem pN (f:X.calm=true):cx X (.builtin "min") (λ xs H Q=>∃ i j,xs=[.int i,.int j]/\Q (.int (if j<i then j else i)) H):=by
 intro pins s σ H xs m Q I r h
 obtain⟨i,j,rfl,q⟩:=h
 obtain⟨u,n,rfl,⟨t,rfl⟩,⟨g,rfl⟩⟩:=vals2 r
 refine min_two_ints (I.ok.hd f) λ h' l k=>⟨_,H,I.kept k,?_,q⟩
 by_cases d:j<i
 ·rw[BN d,BN d];exact⟨_,rfl⟩
 ·rw[BI d,BI d];exact⟨_,rfl⟩
end
structure mV (h:Heap) (x dx C:Addr) (mA:Str->Option Value):Prop where
 obj:h.get? x=some (PySem.W.instObj C dx)
 ns:h.Ns1 dx mA
 ne:dx≠x
theorem qc {h:Heap}{f:Addr}{i:Str->Option Value}(n:h.Ns1 f i):∃ od,h.get? f=some od/\∀ name,PySem.W.lookIn name od=some (i name):=by
 obtain⟨o,g,v,p,k,l,_,m⟩:=n
 refine⟨o,p,λ name=>?_⟩
 have e:=m name
 unfold nsFind findBy at e
 rw[<- Array.find?_toList] at e
 unfold PySem.W.lookIn
 rw[k]
 dsimp only
 split
 ·rename_i y q
  rw[q] at e
  exact congrArg some e
 ·rename_i q
  rw[q] at e
  have a:g.toList.any (·.refKey)=false:=by
   rw[List.any_eq_false]
   intro y r
   obtain⟨z,t,d⟩:=l y (Array.mem_toList_iff.mp r)
   simp[DictEntry.refKey,d]
  have j:¬ g.toList.any (·.refKey)=true:=by rw[a];exact B4
  rw[BI j]
  exact congrArg some e
theorem mV.look (I:mV h x dx C mA):∃ od,PySem.W.InstAt h x (PySem.W.instObj C dx) C (some od)/\∀ name,PySem.W.lookIn name od=some (mA name):=
 let ⟨od,f,d⟩:=qc I.ns
 ⟨od,⟨I.obj,rfl,rfl,f⟩,d⟩
section
variable {prog:Program}{w:World}{A:Around}{E:Value->Shared->Prop}{s:Shared}{K:PySem.W.Frag}{x dx C f:Addr}{mA:Str->Option Value}{name:Str}{v:Value}
theorem get_map (X:K.In s.heap) (I:mV s.heap x dx C mA) (i:PySem.W.plainGet K C name=true) (j:PySem.W.hasDictIn K C=true)
  (g:PySem.W.findIn K (.ref C) name=some none) (l:mA name=some v) (d:PySem.W.handedIn v=true) (h:Q v { s with toks:=s.toks+1 }) :
  wpAny (model prog w) A (getAttr (.ref x) name expr) Q E s:=by
 obtain⟨m,J,k⟩:=I.look
 exact PySem.W.get_value X J (D5 i).1 (PySem.W.findObj_own j g rfl (by rw[k,l])) d h
theorem rO (X:K.In s.heap) (I:mV s.heap x dx C mA) (d:PySem.W.plainGet K C name=true)
  (g:PySem.W.findIn K (.ref C) name=some (some (.ref f))) (j:PySem.W.isFn K (.ref f)=true) (k:mA name=none) (h:Q (.ref f,[.ref x]) s) :
  wpAny (model prog w) A (getMethod (.ref x) name pl) Q E s:=by
 obtain⟨l,J,i⟩:=I.look
 exact PySem.W.method_fn X J (D5 d).1 (D5 d).2 g (Dc.mp j) (by show (PySem.W.lookIn name l).map (·.isSome)=some false;rw[i,k];rfl) h
theorem tU (X:K.In s.heap) (I:mV s.heap x dx C mA)
  (hs:PySem.W.findIn K (.ref C) "__setattr__" = some (some (.builtin "object.__setattr__"))) (z:PySem.W.plainOver K C=true) (B:PySem.W.takerIn K C name=some none) (q:PySem.W.hasDictIn K C=true)
  (D:PySem.Within mA ns) (hsz:ns.length<=sizeLine)
  (h:∀ h',mV h' x dx C (λ y=>if y=name then some v else mA y)->Heap.SameBut dx s.heap h'->Q () { s with heap:=h',toks:=s.toks+2 }) :
  wpAny (model prog w) A (setAttr (.ref x) name v) Q E s:=by
 obtain⟨N,J,L⟩:=I.look
 refine PySem.W.set_plain X J hs (PySem.W.osa_open (s:={ s with toks:=s.toks+1 }) (r:=none) X J z B λ b=>?_)
 obtain⟨G,p,j⟩:=PySem.W.any_some q
 have F:s.heap.get? x=some ⟨.ref C,some dx,.plain,#[]⟩:=I.obj
 refine Bx (BA (Bx (Bx (wpAny_loadPart F (Bx (PySem.W.Looks.here (s:={ s with toks:=s.toks+1 }) (PySem.W.looks_clsIn X p) ?_))))))
 rw[j]
 refine BA (a:=some dx) (Bx (BA (Bx ?_)))
 refine wpAny_nsSet1 (s:={ s with toks:=s.toks+1 }) I.ns λ h' d g=>?_
 obtain⟨M,n,m,l,k,i⟩:=d.count (PySem.Within.cons name v D)
 refine Bx (wpAny_lookBehind l (by rw[k];exact pastItsLine_dict (B6 i (by rw[Ci];lia))) ?_)
 exact BA (h _ ⟨(g.2 _ (Ne.symm I.ne)).trans I.obj,d,I.ne⟩ g)
theorem sO (X:K.In s.heap) (k:PySem.W.makesIn K C=true)
  (hi:PySem.W.findIn K (.ref C) "__init__" = some (some (.ref f))) (j:PySem.W.typeIn K (.ref f)=some (.type "function"))
  (h:codeAny (model prog w) (A.under (.builtin "type.__call__" ⟨.ref C::vs,kw⟩)) (.call (.ref f) ⟨.ref (s.heap.objs.size+1)::vs,kw⟩) (PySem.W.InitBack (s.heap.objs.size+1) R)
   { s with heap:=(s.heap.push PySem.W.emptyDict).push (PySem.W.instObj C s.heap.objs.size) }) :
  codeAny (model prog w) A (.call (.ref C) ⟨vs,kw⟩) R s:=by
 obtain⟨l,g,d,t,m⟩:=s
 exact PySem.W.make_core (FJ X k) (PySem.W.looks_findIn X hi) (λ i=>PySem.W.bind_fn X i j) (.inl rfl) h
theorem pB (X:K.In s.heap) (k:PySem.W.makesIn K C=true)
  (hi:PySem.W.findIn K (.ref C) "__init__" = some (some (.builtin "object.__init__")))
  (j:∀ i,PySem.W.Looks (model prog w) s.heap (bindSpecial (.builtin "object.__init__") i) (.builtin "object.__init__",[i]))
  (h:codeAny (model prog w) (A.under (.builtin "type.__call__" ⟨[.ref C],[]⟩)) (.call (.builtin "object.__init__") ⟨[.ref (s.heap.objs.size+1)],[]⟩) (PySem.W.InitBack (s.heap.objs.size+1) R)
   { s with heap:=(s.heap.push PySem.W.emptyDict).push (PySem.W.instObj C s.heap.objs.size) }) :
  codeAny (model prog w) A (.call (.ref C) ⟨[],[]⟩) R s:=by
 obtain⟨l,g,d,t,m⟩:=s
 exact PySem.W.make_core (FJ X k) (PySem.W.looks_findIn X hi) j (.inr ⟨rfl,rfl⟩) h
end
noncomputable def aP (f:Str) (v:V):List (Str×V)->List (Str×V)
 | []=>[(f,v)]
 | (g,x)::r=>if g=f then (g,v)::r else (g,x)::aP f v r
theorem bF (f g) (v):∀ fs:List (Str×V),(aP f v fs).lookup g=if g=f then some v else fs.lookup g
 | []=>by
  show List.lookup g [(f,v)]=_
  by_cases h:g=f
  ·have d:(g == f)=true:=Dc.mpr h
   simp only[List.lookup,d,BN h]
  ·have d:(g == f)=false:=Ds.mpr h
   simp only[List.lookup,d,BI h]
 | (k,x)::r=>by
  have j:=bF f g v r
  rw[show aP f v ((k,x)::r)=(if k=f then (k,v)::r else (k,x)::aP f v r) from rfl]
  by_cases i:k=f
  ·rw[BN i]
   by_cases h:g=k
   ·have d:(g == k)=true:=Dc.mpr h
    simp only[List.lookup,d,BN (h.trans i)]
   ·have d:(g == k)=false:=Ds.mpr h
    simp only[List.lookup,d,BI (λ e:g=f=>h (e.trans i.symm))]
  ·rw[BI i]
   by_cases h:g=k
   ·have d:(g == k)=true:=Dc.mpr h
    simp only[List.lookup,d,BI (λ e:g=f=>i (h.symm.trans e))]
   ·have d:(g == k)=false:=Ds.mpr h
    simp only[List.lookup,d]
    exact j
theorem gE (f) (v):∀ fs:List (Str×V),f∈(aP f v fs).map (·.1)/\∀ g,g∈fs.map (·.1)->g∈(aP f v fs).map (·.1)
 | []=>⟨by simp[aP],λ g h=>by simp at h⟩
 | (k,x)::r=>by
  obtain⟨i,j⟩:=gE f v r
  rw[show aP f v ((k,x)::r)=(if k=f then (k,v)::r else (k,x)::aP f v r) from rfl]
  by_cases d:k=f
  ·rw[BN d]
   subst d
   exact⟨by simp,λ g h=>by simpa using h⟩
  ·rw[BI d]
   refine⟨?_,λ g h=>?_⟩
   ·rw[Ce]
    exact BQ _ i
   ·rw[Ce] at h ⊢
    rcases BF.mp h with e|e
    ·exact BF.mpr (.inl e)
    ·exact BQ _ (j g e)
theorem bJ (f) (v):∀ fs:List (Str×V),(aP f v fs).length<=fs.length+1
 | []=>by simp[aP]
 | (k,x)::r=>by
  have g:=bJ f v r
  rw[show aP f v ((k,x)::r)=(if k=f then (k,v)::r else (k,x)::aP f v r) from rfl]
  by_cases d:k=f
  ·rw[BN d,Ci,Ci];lia
  ·rw[BI d,Ci,Ci];lia
theorem eu.some_of (r:eu (some v) o):∃ u,o=some u/\RelV v u:=by
 cases o with
 | none=>exact(show False from r).elim
 | some u=>exact⟨u,rfl,r⟩
theorem eu.none_of (r:eu none o):o=none:=by
 cases o with
 | none=>rfl
 | some u=>exact(show False from r).elim
theorem qv {v:V}{u:Value}(r:RelV v u):PySem.W.handedIn u=true:=by
 cases v with
 | non=>cases (show u=Value.none from r);rfl
 | bl b=>cases (show u=Value.bool b from r);rfl
 | int i=>obtain⟨t,e⟩:=(show ∃ t,u=Value.int i t from r);cases e;rfl
 | str x=>obtain⟨t,e⟩:=(show ∃ t,u=Value.str x t from r);cases e;rfl
 | byt b=>obtain⟨t,e⟩:=(show ∃ t,u=Value.bytes b t from r);cases e;rfl
 | flt b=>obtain⟨t,e⟩:=(show ∃ t,u=Value.float b t from r);cases e;rfl
 | ref a=>cases (show u=Value.ref a from r);rfl
 | ty n=>cases (show u=Value.type n from r);rfl
section
variable {P:Program}{w:World}{H H':Hp}{h h':Heap}{a C dx:Addr}{fs fs':List (Str×V)}
theorem gh (g:HOk P w H h) (e:H a=some (.ins C dx fs)):∃ mA,mV h a dx C mA/\(∀ f,eu (fs.lookup f) (mA f))/\PySem.Within mA (fs.map (·.1))/\fs.length<=1000/\H dx=some (.own a):=by
 obtain⟨d,z,i,j,mA,n,r,q⟩:=(show bo P w H h a (.ins C dx fs) from g a _ e)
 exact⟨mA,⟨j,n,i⟩,r,q,z,d⟩
end
structure Cls (K:PySem.W.Frag) (C:Addr):Prop where
 pg:PySem.W.plainGet K C Str.empty=true
 hd:PySem.W.hasDictIn K C=true
 po:PySem.W.plainOver K C=true
 sa:PySem.W.findIn K (.ref C) "__setattr__" = some (some (.builtin "object.__setattr__"))
theorem Cls.get {K:PySem.W.Frag}{C:Addr}(c:Cls K C) (f:Str):PySem.W.plainGet K C f=true:=c.pg
noncomputable def bG (K:PySem.W.Frag) (C:Addr) (f:Str):Prop:=PySem.W.findIn K (.ref C) f=some none
theorem bG.xG {K:PySem.W.Frag}{C:Addr}{f:Str}(n:bG K C f):PySem.W.takerIn K C f=some none:=by
 unfold PySem.W.takerIn
 rw[show PySem.W.findIn K (.ref C) f=some none from n]
 rfl
structure Meth (K:PySem.W.Frag) (C:Addr) (m:Str) (f:Addr):Prop where
 at_:PySem.W.findIn K (.ref C) m=some (some (.ref f))
 fn:PySem.W.isFn K (.ref f)=true
 kp:PySem.W.keepIn K (.ref f)=true
section
variable {X:Cx}{pins:List (Addr×Obj)}{σ:St}{H:Hp}{s:Shared}{a C dx:Addr}{fs:List (Str×V)}{f:Str}{v:V}{A:Around}{E:Value->Shared->Prop}
theorem i0 (I:Inv X pins σ H s) (e:H a=some (.ins C dx fs)) (c:Cls X.K C) (n:bG X.K C f) (l:fs.lookup f=some v)
  (h:∀ u g,Inv X pins σ H g->RelV v u->Q u g):wpAny (model X.prog X.w) A (getAttr (.ref a) f b) Q E s:=by
 obtain⟨mA,O,r,_,_,_⟩:=gh I.hok e
 obtain⟨u,i,d⟩:=eu.some_of (v:=v) (o:=mA f) (by rw[<- l];exact r f)
 exact get_map I.kIn O (c.get f) c.hd n i (qv d) (h u _ (I.tok _) d)
theorem iq (I:Inv X pins σ H s) (e:H a=some (.ins C dx fs)) (c:Cls X.K C) (k:Meth X.K C m g) (l:fs.lookup m=none)
  (h:Q (.ref g,[.ref a]) s):wpAny (model X.prog X.w) A (getMethod (.ref a) m pl) Q E s:=by
 obtain⟨mA,O,r,_,_,_⟩:=gh I.hok e
 have d:mA m=none:=eu.none_of (by rw[<- l];exact r m)
 exact rO I.kIn O (c.get m) k.at_ k.fn d h
theorem mD (I:Inv X pins σ H s) (e:H a=some (.ins C dx fs)) (c:Cls X.K C) (n:bG X.K C f) (J:fs.length<1000) (F:RelV y u)
  (h:∀ j,Inv X pins σ (upd H a (.ins C dx (aP f y fs))) j->Q () j):wpAny (model X.prog X.w) A (setAttr (.ref a) f u) Q E s:=by
 obtain⟨mA,O,r,k,_,i⟩:=gh I.hok e
 have D:(fs.map (·.1)).length<=sizeLine:=by rw[BB,DE];lia
 refine tU I.kIn O c.sa c.po n.xG c.hd k D λ h' d G=>h _ ?_
 have p:∃ o,h'.get? dx=some o:=let ⟨o,_,_,l,_⟩:=d.ns;⟨o,l⟩
 refine I.write (x:=a) (e:=dx) (by rw[e];exact True.intro) (.inr i) (λ b q m z=>(G.2 b m).trans z) p ?_
 refine⟨by rw[aE O.ne];exact i,?_,O.ne,d.obj,_,d.ns,λ g=>?_,λ g B=>?_⟩
 ·have:=bJ f y fs;lia
 ·show eu ((aP f y fs).lookup g) (if g=f then some u else mA g)
  rw[bF]
  by_cases q:g=f
  ·rw[BN q,BN q];exact F
  ·rw[BI q,BI q];exact r g
 ·by_cases q:g=f
  ·rw[q];exact(gE f y fs).1
  ·refine(gE f y fs).2 g (k g λ z=>B ?_)
   show (if g=f then some u else mA g)=none
   rw[BI q];exact z
theorem Inv.made (I:Inv X pins σ H s):Inv X pins σ (upd (upd H s.heap.objs.size (.own (s.heap.objs.size+1))) (s.heap.objs.size+1) (.ins C s.heap.objs.size []))
  { s with heap:=(s.heap.push PySem.W.emptyDict).push (PySem.W.instObj C s.heap.objs.size) }:=by
 have d:(s.heap.push PySem.W.emptyDict).get? s.heap.objs.size=some PySem.W.emptyDict:=Heap.get?_push_size s.heap rfl
 have j:((s.heap.push PySem.W.emptyDict).push (PySem.W.instObj C s.heap.objs.size)).get? (s.heap.objs.size+1)=some (PySem.W.instObj C s.heap.objs.size):=by
  have:=Heap.get?_push_size (s.heap.push PySem.W.emptyDict) (o:=PySem.W.instObj C s.heap.objs.size) rfl
  rwa [Heap.size_push] at this
 have k:(s.heap.push PySem.W.emptyDict).Ns s.heap.objs.size (λ _=>none):=⟨PySem.W.emptyDict,#[],_,d,rfl,(λ e l=>absurd l (by simp)),λ _=>rfl⟩
 have i:=I.laid (a:=s.heap.objs.size) (o:=.own (s.heap.objs.size+1)) (h':=s.heap.push PySem.W.emptyDict) (t':=s.toks) (λ b u q=>Heap.get?_push_of_some _ q) (Nat.le_refl _) ⟨_,d⟩
 refine i.laid (a:=s.heap.objs.size+1) (o:=.ins C s.heap.objs.size []) (t':=s.toks) (λ b u q=>Heap.get?_push_of_some _ q) (Ek (Heap.size_push _ _)) ?_
 have g:s.heap.objs.size≠s.heap.objs.size+1:=BU (D4 _)
 refine⟨by rw[aE g,aD],Cf _,g,j,λ _=>none,(Heap.Ns1.of_empty k).at λ o q=>Heap.get?_push_of_some _ q,λ _=>True.intro,λ y m=>absurd rfl m⟩
theorem uq (g:attributeBase e f env (eval e env)=eval e env)
  (h:wpAny (model prog w) A (eval e env) (λ o d=>wpAny (model prog w) A (getAttr o f true) Q E d) E s):wpAny (model prog w) A (eval (.Attribute e f pos) env) Q E s:=
 Attribute_any_ h (by rw[arm_eval_Attribute,g])
end
noncomputable def qS (K:PySem.W.Frag) (ta:TE) (f:Str):TE:=λ σ H Q=>ta σ H λ x H1=>∃ a C dx fs v,x=.ref a/\H1 a=some (.ins C dx fs)/\Cls K C/\bG K C f/\fs.lookup f=some v/\Q v H1
noncomputable def zC (K:PySem.W.Frag) (ta tv:TE) (f:Str):TS:=λ D σ H=>tv σ H λ y H1=>ta σ H1 λ x H2=>∃ a C dx fs,x=.ref a/\H2 a=some (.ins C dx fs)/\Cls K C/\bG K C f/\fs.length<1000 /\
 D.nx σ (upd H2 a (.ins C dx (aP f y fs)))
section
variable {X:Cx}{o e value:Expr}{f:Str}{pos pos' tpos:Pos}{ta tv:TE}
theorem vK (k:PE X e ta) (j:attributeBase e f X.env (eval e X.env)=eval e X.env):PE X (.Attribute e f pos) (qS X.K ta f):=by
 intro pins s σ H Q I h
 refine uq j (thn (k pins s σ H _ I h) λ u r ⟨x,H1,d,p,a,C,dx,fs,v,ex,i,c,n,l,q⟩=>?_)
 subst ex
 obtain rfl:u=Value.ref a:=p
 exact i0 d i c n l λ z y g m=>⟨v,H1,g,m,q⟩
theorem wq (k:PE X o ta) (m:PE X value tv) (hs:swapsWith value (some (.Attribute o f pos')) pos.line X.env=pure false):PS X (.Assign [.Attribute o f pos'] value pos) (zC X.K ta tv f):=by
 intro pins s σ H D I h
 refine plainObj_wpAny_Assign_Attribute (thn (m pins s σ H _ I h) λ u F ⟨y,H1,d,B,q⟩=>thn (k pins F σ H1 _ d q) λ p G ⟨x,H2,g,z,a,C,dx,fs,ex,j,c,n,l,r⟩=>?_) hs
 subst ex
 obtain rfl:p=Value.ref a:=z
 exact mD g j c n l B λ J i=>⟨σ,_,i,r⟩
end
section
variable {X:Cx}{pins:List (Addr×Obj)}{σ:St}{H:Hp}{s:Shared}{A:Around}{E:Value->Shared->Prop}{Q:Value->Shared->Prop}{c:Value}{b:Bool}
inductive gI (K:PySem.W.Frag) (H:Hp):V->Value->Prop where
 | non:gI K H .non (.type "NoneType")
 | bl (x:Bool):gI K H (.bl x) (.type "bool")
 | int (i:Int):gI K H (.int i) (.type "int")
 | str (x:Str):gI K H (.str x) (.type "str")
 | flt (x:UInt64):gI K H (.flt x) (.type "float")
 | lst {a:Addr} {xs:List V} (e:H a=some (.lst xs)):gI K H (.ref a) (.type "list")
 | frz {a:Addr} {o:Obj} {xs:List V} (e:H a=some (.frz o (.lst xs))):gI K H (.ref a) (.type "list")
 | tup {a:Addr} {xs:List V} (e:H a=some (.tup xs)):gI K H (.ref a) (.type "tuple")
 | dK {a:Addr} {kvs:List (Key×V)} (e:H a=some (.dK kvs)):gI K H (.ref a) (.type "dict")
 | dT {a:Addr} {kvs:List (List Key×V)} (e:H a=some (.dT kvs)):gI K H (.ref a) (.type "dict")
 | ins {a C dx:Addr} {fs:List (Str×V)} (e:H a=some (.ins C dx fs)) (cl:Cls K C) (ha:PySem.W.findIn K (.ref C) "__class__" = some (some (.builtin "object.__class__")))
   (hn:PySem.W.specialIn K (.builtin "object.__class__") "__get__" = some (some (.builtin "getset_descriptor.__get__"))) (htk:PySem.W.takesIn K (.builtin "object.__class__")=some true)
   (hm:PySem.W.mroIn K C (.type "object")=some true):gI K H (.ref a) (.ref C)
theorem pI {x:V}{u t:Value}(I:Inv X pins σ H s) (rx:RelV x u) (ty:gI X.K H x t) (e:PySem.W.kitOne X.K t c=some b) (h:∀ tk,Q (.bool b) { s with toks:=tk }) :
  wpAny (model X.prog X.w) A (call (.builtin "isinstance") [u,c]) Q E s:=by
 cases ty with
 | non=>cases (show u=Value.none from rx);exact C3 PySem.W.kitx_none I.kIn True.intro e (λ z=>nomatch z) h
 | bl y=>cases (show u=Value.bool y from rx);exact C3 PySem.W.kitx_bool I.kIn True.intro e (λ z=>nomatch z) h
 | int i=>obtain⟨t,q⟩:=(show ∃ t,u=Value.int i t from rx);cases q;exact C3 PySem.W.kitx_int I.kIn True.intro e (λ z=>nomatch z) h
 | str y=>obtain⟨t,q⟩:=(show ∃ t,u=Value.str y t from rx);cases q;exact C3 PySem.W.kitx_str I.kIn True.intro e (λ z=>nomatch z) h
 | flt y=>obtain⟨t,q⟩:=(show ∃ t,u=Value.float y t from rx);cases q;exact C3 PySem.W.kitx_float I.kIn True.intro e (λ z=>nomatch z) h
 | @lst a xs ea=>
  cases (show u=Value.ref a from rx)
  obtain⟨_,_,n,_,h1⟩:=(show bo X.prog X.w H s.heap a (.lst xs) from I.hok a _ ea)
  exact C3 PySem.W.kitx_list I.kIn ⟨_,h1,rfl⟩ e (λ z=>nomatch z) h
 | @frz a ob xs ea=>
  cases (show u=Value.ref a from rx)
  obtain⟨_,_,_,n,_,h1⟩:=(show bo X.prog X.w H s.heap a (.frz ob (.lst xs)) from I.hok a _ ea)
  exact C3 PySem.W.kitx_list I.kIn ⟨_,h1,rfl⟩ e (λ z=>nomatch z) h
 | @tup a xs ea=>
  cases (show u=Value.ref a from rx)
  obtain⟨_,_,_,p⟩:=(show bo X.prog X.w H s.heap a (.tup xs) from I.hok a _ ea)
  obtain⟨o,h1,h2,_⟩:=p
  exact C3 PySem.W.kitx_tuple I.kIn ⟨o,h1,h2⟩ e (λ z=>nomatch z) h
 | @dK a kvs ea=>
  cases (show u=Value.ref a from rx)
  obtain⟨_,_,vs,_,p⟩:=(show bo X.prog X.w H s.heap a (.dK kvs) from I.hok a _ ea)
  obtain⟨o,es,ep,h1,h2,_⟩:=p
  exact C3 PySem.W.kitx_dict I.kIn ⟨o,h1,h2.1⟩ e (λ z=>nomatch z) h
 | @dT a kvs ea=>
  cases (show u=Value.ref a from rx)
  obtain⟨_,_,xs,_,o,es,ep,h1,h2,_⟩:=(show bo X.prog X.w H s.heap a (.dT kvs) from I.hok a _ ea)
  exact C3 PySem.W.kitx_dict I.kIn ⟨o,h1,h2.1⟩ e (λ z=>nomatch z) h
 | @ins a C dx fs ea cl ha hn htk hm=>
  cases (show u=Value.ref a from rx)
  obtain⟨mA,O,_⟩:=gh I.hok ea
  obtain⟨od,J,_⟩:=O.look
  exact C3 (PySem.W.kitx_own (cl.get _) cl.hd ha hn htk hm) I.kIn J e (λ z=>nomatch z) h
end
structure cB (k:Nat) (A:Around):Prop where
 hd:A.handled=none
 dp:A.depth+3*k+5<recursionLimit
 un:A.units+16*k+200<cLine
theorem cB.mono (r:cB k A) (h:j<=k):cB j A:=⟨r.hd,by have:=r.dp;lia,by have:=r.un;lia⟩
theorem cB.deeper (r:cB (k+1) A) (env:Env):cB k (A.deeper env):=
 ⟨r.hd,by have:=r.dp;show A.depth+1+3*k+5<_;lia,by have:=r.un;show A.units+3+16*k+200<_;lia⟩
theorem mJ {A:Around}{C:Addr}{us:List Value}{kw:List (Str×Value)}:(A.under (.builtin "type.__call__" ⟨.ref C::us,kw⟩)).depth=A.depth+1:=by
 first|rfl|simp[Around.under,Code.weight,Code.isCreation,Code.isGuard,Code.isCaller,Code.frames,Code.isFrame,guardIds]
theorem mL {A:Around}{C:Addr}{us:List Value}{kw:List (Str×Value)}:(A.under (.builtin "type.__call__" ⟨.ref C::us,kw⟩)).units=A.units+1:=by
 first|rfl|simp[Around.under,Code.cUnits,Code.frames,Code.isFrame]
theorem cB.make (r:cB (k+1) A) (C) (us) (kw):cB k (A.under (.builtin "type.__call__" ⟨.ref C::us,kw⟩)):=
 ⟨r.hd,by have:=r.dp;rw[mJ];lia,by have:=r.un;rw[mL];lia⟩
theorem cB.depth (r:cB k A):A.depth<recursionLimit:=by have:=r.dp;lia
theorem cB.units (r:cB k A):A.units+64<cLine:=by have:=r.un;lia
noncomputable def iR:TA:=λ _ H Q=>Q [] H
noncomputable def dm (ta:TE) (tr:TA):TA:=λ σ H Q=>ta σ H λ x H1=>tr σ H1 λ xs H2=>Q (x::xs) H2
section
variable {X:Cx}{e:Expr}{es:List Expr}{te:TE}{t:TA}{pos:Pos}
theorem aG:PA X [] iR:=λ _ _ _ _ H Q I h=>Calls.spliced_nil ⟨[],H,I,.nil,h⟩
theorem sZ (i:PE X e te) (j:PA X es t) (hs:starEach (e::es) X.env=(false,eval e X.env)::starEach es X.env:=by rfl):PA X (e::es) (dm te t):=by
 intro pos pins s σ H Q I h
 rw[hs]
 show wpAny _ _ (spliced ((false,eval e X.env)::backTo pos (starEach es X.env))) _ _ s
 refine Calls.spliced_cons (thn (i pins s σ H _ I h) λ u p ⟨x,H1,d,m,k⟩=>?_)
 exact thn (j pos pins p σ H1 _ d k) λ r q ⟨xs,H2,g,n,l⟩=>⟨x::xs,H2,g,.cons m n,l⟩
noncomputable def vB (t:TA):TE:=λ σ H Q=>t σ H λ xs H1=>xs.length<=sizeLine/\∀ p,H1 p=none->Q (.ref p) (upd H1 p (.tup xs))
noncomputable def wt (t:TA):TE:=λ σ H Q=>t σ H λ xs H1=>xs.length<=sizeLine/\∀ p,H1 p=none->Q (.ref p) (upd H1 p (.lst xs))
theorem cf {l}(h:PA X es t):PE X (.Tuple es l pos) (vB t):=by
 intro pins s σ H Q I j
 refine wpAny_Tuple_spliced (thn (h pos pins s σ H _ I j) λ k d ⟨xs,H1,g,r,z,q⟩=>⟨by rw[<- r.length];exact z,?_⟩)
 have i:H1 d.heap.objs.size=none:=g.hok.fresh (Nat.le_refl _)
 refine⟨.ref d.heap.objs.size,upd H1 d.heap.objs.size (.tup xs),g.laid (t':=d.toks) (λ b u e=>Heap.get?_push_of_some _ e) (Nat.le_refl _) ?_,rfl,q _ i⟩
 exact⟨z,k,r,⟨_,Heap.get?_push_size _ rfl,rfl,_,rfl⟩⟩
theorem cG (h:PA X es t):PE X (.List es pos) (wt t):=by
 intro pins s σ H Q I j
 refine wpAny_List_spliced (thn (h pos pins s σ H _ I j) λ k d ⟨xs,H1,g,r,z,q⟩=>⟨by rw[<- r.length];exact z,?_⟩)
 have i:H1 d.heap.objs.size=none:=g.hok.fresh (Nat.le_refl _)
 refine⟨.ref d.heap.objs.size,upd H1 d.heap.objs.size (.lst xs),g.laid (t':=d.toks) (λ b u e=>Heap.get?_push_of_some _ e) (Nat.le_refl _) ?_,rfl,q _ i⟩
 exact⟨z,k,0,r,Heap.get?_push_size _ rfl⟩
end
noncomputable abbrev Sp:=List V->Hp->VK->XK->Prop
noncomputable abbrev CXT:=List Env->Hp->Shared->XK->Value->Shared->Prop
structure j8 (P:Program) (w:World) (K:PySem.W.Frag) (mg:Str->Option Value) (base:Heap) (A:Around) (outer:List Env) (s:Shared) (H:Hp):Prop where
 frames:A.frames=some outer
 mod:Mod K mg base
 bs:∀ b o,base.get? b=some o->s.heap.get? b=some o/\H b=none
 bsz:base.objs.size<=s.heap.objs.size
 gv:s.heap.FunFrames base outer
 frf:∀ b∈frs outer,H b=none
 hok:HOk P w H s.heap
 bare:AllBare s.gens
noncomputable def CE (outer:List Env) (P:Program) (w:World) (H:Hp) (s:Shared) (Q:VK) (u:Value) (s':Shared):Prop:=
 ∃ v H',s'.os=s.os/\AllBare s'.gens/\Un (frs outer) [] H H' s.heap s'.heap/\HOk P w H' s'.heap/\RelV v u/\Q v H'
noncomputable def CR (CX:CXT) (outer:List Env) (P:Program) (w:World) (H:Hp) (s:Shared) (Q:VK) (E:XK) (r:Result) (s':Shared):Prop:=
 match r with
 | .ok (.ret u)=>CE outer P w H s Q u s'
 | .ok _=>False
 | .error e=>CX outer H s E e s'
structure bB (P:Program) (w:World) (K:PySem.W.Frag) (mg:Str->Option Value) (base:Heap) (CX:CXT) (k:Nat) (f:Addr) (fd:FuncData) (ps:List Str) (sp:Sp):Prop where
 len:∀ vs H Q E,sp vs H Q E->vs.length=ps.length
 run:∀ (A:Around) (outer:List Env) (s:Shared) (H:Hp) (args:Args) (us:List Value) (vs:List V) (Q:VK) (E:XK),cB k A->j8 P w K mg base A outer s H->BindsTo s fd args (ps.zip us)->Vals vs us->sp vs H Q E ->
  codeAny (model P w) A (.call (.ref f) args) (CR CX outer P w H s Q E) s
theorem j8.make {P:Program}{w:World}{K:PySem.W.Frag}{g:Str->Option Value}{base:Heap}{A:Around}{d:List Env}{s:Shared}{H:Hp}(e:j8 P w K g base A d s H) (C:Addr) (us:List Value) (kw:List (Str×Value)) :
  j8 P w K g base (A.under (.builtin "type.__call__" ⟨.ref C::us,kw⟩)) d s H:=⟨by first|exact e.frames|(simpa [Around.under,Code.envs,Code.isFrame,pushEnvs] using e.frames),e.mod,e.bs,e.bsz,e.gv,e.frf,e.hok,e.bare⟩
section
variable {X:Cx}{pins:List (Addr×Obj)}{σ:St}{H:Hp}{s s':Shared}
theorem Inv.vT (I:Inv X pins σ H s):j8 X.prog X.w X.K X.mg X.base X.A X.stack s H:=
 ⟨I.ok.frames,I.ok.mod,I.bs,B6 I.ok.bsz I.sz,I.stack,I.ic,I.hok,I.bare⟩
theorem Inv.after (I:Inv X pins σ H s) (h:CE X.stack X.prog X.w H s Q u s'):EP X pins σ Q u s':=by
 obtain⟨v,H',m,i,n,j,r,q⟩:=h
 obtain⟨l,g,d,t,k⟩:=s'
 obtain rfl:k=s.os:=m
 exact⟨v,H',I.call (h':=l) (g':=g) (d':=d) (t':=t) (ch:=[]) n j i (λ b z=>absurd z (by simp)),r,q⟩
end
noncomputable def uE (sp:Sp) (dvs:List V) (E:XK) (t:TA):TE:=λ σ H Q=>t σ H λ vs H1=>sp (vs++dvs) H1 Q E
noncomputable def rC (C:Addr) (m:Str) (sp:Sp) (dvs:List V) (E:XK) (ta:TE) (t:TA):TE:=λ σ H Q=>ta σ H λ x H1=>∃ a dx fs,x=.ref a/\H1 a=some (.ins C dx fs)/\fs.lookup m=none /\
 t σ H1 λ vs H2=>sp (x::(vs++dvs)) H2 Q E
noncomputable def y8 (C:Addr) (sp:Sp) (dvs:List V) (E:XK) (t:TA):TE:=λ σ H Q=>t σ H λ vs H1=>∀ x dx,H1 x=none->H1 dx=none->dx≠x ->
 sp (.ref x::(vs++dvs)) (upd (upd H1 dx (.own x)) x (.ins C dx [])) (λ v H2=>v=.non/\Q (.ref x) H2) E
noncomputable def Binds (K:PySem.W.Frag) (fd:FuncData) (ps:List Str) (ds:List Value):Prop:=
 ∀ (s:Shared) (us:List Value),K.In s.heap->(us++ds).length=ps.length->BindsTo s fd ⟨us,[]⟩ (ps.zip (us++ds))
theorem Binds.all {K:PySem.W.Frag}{g:FuncData}{d:List Str}(h:∀ us:List Value,us.length=d.length->bindArgs g ⟨us,[]⟩=pure (d.zip us)):Binds K g d []:=λ s us _ i=>by
 rw[Dr] at i ⊢
 exact .of_eq (h us i)
noncomputable def Passes (CX:CXT) (X:Cx) (E:XK):Prop:=∀ (pins:List (Addr×Obj)) (σ:St) (H:Hp) (s:Shared) (e:Value) (s':Shared),Inv X pins σ H s->CX X.stack H s E e s'->X.xe e s'
section
variable {X:Cx}{CX:CXT}{k:Nat}{f C:Addr}{fd:FuncData}{ps:List Str}{sp:Sp}{dvs:List V}{ds:List Value}{E:XK}{x m:Str}{p pos apos:Pos}{e o:Expr}{es:List Expr}{ta:TE}{t:TA}
theorem m9 (F:bB X.prog X.w X.K X.mg X.base CX k f fd ps sp) (q:cB k X.A) (j:Binds X.K fd ps ds) (l:Vals dvs ds) (y:Passes CX X E)
  (I:Inv X pins σ H s) (r:Vals vs us) (h:sp (vs++dvs) H Q E):wpAny (model X.prog X.w) X.A (call (.ref f) us) (EP X pins σ Q) X.xe s:=by
 have g:Vals (vs++dvs) (us++ds):=r.append l
 have n:(us++ds).length=ps.length:=by rw[<- g.length];exact F.len _ _ _ _ h
 refine EJ (EF (F.run X.A X.stack s H ⟨us,[]⟩ (us++ds) (vs++dvs) Q E q I.vT (j s us I.kIn n) g h) λ r s' d=>?_)
 cases r with
 | error e=>exact y pins σ H s e s' I d
 | ok i=>
  cases i with
  | ret u=>exact I.after d
  | next=>exact False.elim d
  | brk=>exact False.elim d
  | cont=>exact False.elim d
theorem aV (F:bB X.prog X.w X.K X.mg X.base CX k f fd ps sp) (G:cB k X.A) (z:Gl X x) (D:X.mg x=some (.ref f)) (B:PySem.W.keepIn X.K (.ref f)=true) (l:Binds X.K fd ps ds) (n:Vals dvs ds) (J:Passes CX X E)
  (j:PA X (e::es) t) (d:(x == ("__debug__" : Str))=false:=by decide) (y:starEach (e::es) X.env=(false,eval e X.env)::starEach es X.env:=by rfl) (g:(backTo pos (starEach es X.env)).any (·.1)=false:=by rfl) :
  PE X (.Call (.Name x p) (e::es) [] pos) (uE sp dvs E t):=by
 intro pins s σ H Q I h
 refine Ec (fZ I z D ?_ d)
 refine EM (h₀:=X.base) I.ok.mod.kin B (thn (j pos pins s σ H _ I h) λ M L ⟨N,H1,i,r,q⟩=>⟨i.kIn,?_⟩) y g
 exact m9 F G l n J i r q
theorem bj {pl:Sem Bool}(he:PE X o ta) (c:Cls X.K C) (hm:Meth X.K C m f) (F:bB X.prog X.w X.K X.mg X.base CX k f fd ps sp) (hr:cB k X.A) (hb:Binds X.K fd ps ds) (hd:Vals dvs ds) (hx:Passes CX X E) (ha:PA X (e::es) t)
  (hst:starEach (e::es) X.env=(false,eval e X.env)::starEach es X.env:=by rfl) (hpl:(backTo pos (starEach es X.env)).any (·.1)=false:=by rfl)
  (ht:eval (.Call (.Attribute o m apos) (e::es) [] pos) X.env=(do
   let ov <- eval o X.env
   standAt apos.atName
   let (f,first) <- holding [ov] (getMethod ov m pl)
   callWith pos f first (backTo pos (starEach (e::es) X.env)) (backToKw pos (keywordEach [] X.env))):=by rfl) :
  PE X (.Call (.Attribute o m apos) (e::es) [] pos) (rC C m sp dvs E ta t):=by
 intro pins s σ H Q I h
 refine Fg (pl:=pl) (thn (he pins s σ H _ I h) λ u s1 ⟨x,H1,I1,rx,a,dx,fs,ex,ea,l,q⟩=>?_) ht
 subst ex
 obtain rfl:u=Value.ref a:=rx
 refine iq I1 ea c hm l ?_
 refine EM (first:=[.ref a]) (h₀:=X.base) I.ok.mod.kin hm.kp (thn (ha pos pins s1 σ H1 _ I1 q) λ us s2 ⟨vs,H2,I2,r,q2⟩=>⟨I2.kIn,?_⟩) hst hpl
 exact m9 (us:=.ref a::us) (vs:=.ref a::vs) F hr hb hd hx I2 (.cons rfl r) q2
theorem aU {pl:Sem Bool}(he:PE X o ta) (c:Cls X.K C) (hm:Meth X.K C m f) (F:bB X.prog X.w X.K X.mg X.base CX k f fd ps sp) (hr:cB k X.A) (hb:Binds X.K fd ps ds) (hd:Vals dvs ds) (hx:Passes CX X E)
  (ht:eval (.Call (.Attribute o m apos) [] [] pos) X.env=(do
   let ov <- eval o X.env
   standAt apos.atName
   let (f,first) <- holding [ov] (getMethod ov m pl)
   callWith pos f first (backTo pos (starEach [] X.env)) (backToKw pos (keywordEach [] X.env))):=by rfl) :
  PE X (.Call (.Attribute o m apos) [] [] pos) (rC C m sp dvs E ta iR):=by
 intro pins s σ H Q I h
 refine Fg (pl:=pl) (thn (he pins s σ H _ I h) λ u s1 ⟨x,H1,I1,rx,a,dx,fs,ex,ea,l,q⟩=>?_) ht
 subst ex
 obtain rfl:u=Value.ref a:=rx
 refine iq I1 ea c hm l ?_
 exact PySem.W.callWith_K0 (first:=[.ref a]) I1.kIn hm.kp (m9 (us:=[.ref a]) (vs:=[.ref a]) F hr hb hd hx I1 (.cons rfl .nil) q)
structure Mk (K:PySem.W.Frag) (C f:Addr):Prop where
 makes:PySem.W.makesIn K C=true
 init:PySem.W.findIn K (.ref C) "__init__" = some (some (.ref f))
 fn:PySem.W.isFn K (.ref f)=true
 kp:PySem.W.keepIn K (.ref C)=true
theorem q8 (M:Mk X.K C f) (F:bB X.prog X.w X.K X.mg X.base CX k f fd ps sp) (D:cB (k+1) X.A) (y:Binds X.K fd ps ds) (z:Vals dvs ds)
  (G:Passes CX X E) (I:Inv X pins σ H s) (r:Vals vs us)
  (h:∀ x dx,H x=none->H dx=none->dx≠x->sp (.ref x::(vs++dvs)) (upd (upd H dx (.own x)) x (.ins C dx [])) (λ v H2=>v=.non/\Q (.ref x) H2) E) :
  wpAny (model X.prog X.w) X.A (call (.ref C) us) (EP X pins σ Q) X.xe s:=by
 have i:=h (s.heap.objs.size+1) s.heap.objs.size (I.hok.fresh (D1 _)) (I.hok.fresh (Nat.le_refl _)) (BU (D4 _))
 have g:=Inv.made (C:=C) I
 have j:Vals (V.ref (s.heap.objs.size+1)::(vs++dvs)) (Value.ref (s.heap.objs.size+1)::(us++ds)):=.cons rfl (r.append z)
 have B:(Value.ref (s.heap.objs.size+1)::us++ds).length=ps.length:=by
  have e:=j.length
  rw[F.len _ _ _ _ i] at e
  exact e.symm
 refine EJ (sO (f:=f) I.kIn M.makes M.init (Dc.mp M.fn) (EF (F.run _ X.stack _ _ ⟨Value.ref (s.heap.objs.size+1)::us,[]⟩ (Value.ref (s.heap.objs.size+1)::(us++ds)) _ _ E (D.make C us [])
  (g.vT.make C us []) (y _ (Value.ref (s.heap.objs.size+1)::us) g.kIn B) j i) λ r s' d=>?_))
 cases r with
 | error e=>exact G pins σ _ _ e s' g d
 | ok q=>
  cases q with
  | ret u=>
   obtain⟨v,H',l,L,n,J⟩:=g.after d
   subst n
   exact⟨L,⟨V.ref (s.heap.objs.size+1),H',l,rfl,J⟩⟩
  | next=>exact False.elim d
  | brk=>exact False.elim d
  | cont=>exact False.elim d
theorem fm (M:Mk X.K C f) (F:bB X.prog X.w X.K X.mg X.base CX k f fd ps sp) (D:cB (k+1) X.A) (z:Gl X x) (B:X.mg x=some (.ref C)) (l:Binds X.K fd ps ds) (n:Vals dvs ds) (G:Passes CX X E)
  (j:PA X (e::es) t) (d:(x == ("__debug__" : Str))=false:=by decide) (y:starEach (e::es) X.env=(false,eval e X.env)::starEach es X.env:=by rfl) (g:(backTo pos (starEach es X.env)).any (·.1)=false:=by rfl) :
  PE X (.Call (.Name x p) (e::es) [] pos) (y8 C sp dvs E t):=by
 intro pins s σ H Q I h
 refine Ec (fZ I z B ?_ d)
 refine EM (h₀:=X.base) I.ok.mod.kin M.kp (thn (j pos pins s σ H _ I h) λ L J ⟨N,H1,i,r,q⟩=>⟨i.kIn,?_⟩) y g
 exact q8 M F D l n G i r q
end
section
variable {X:Cx}{CX:CXT}{k:Nat}{f C:Addr}{fd:FuncData}{ps ks:List Str}{sp:Sp}{E:XK}{x m:Str}{p pos apos kpos:Pos}{e o:Expr}{es:List Expr}{kws:List Keyword}{te ta:TE}{t tk:TA}{nm:Option Str}
variable {g:List Value->List Value->List Value}{gV:List V->List V->List V}
end
structure aQ (N P:List Str) (sc:Scope):Prop where
 kind:sc.kind=.function
 co:sc.isCoroutine=false
 gen:sc.isGenerator=false
 nd:N.Nodup
 pre:N.take P.length=P
 par:∀ x∈P,sc.names.lookup x=some .local\/sc.names.lookup x=some .cell
 nofree:∀ y∈sc.names,y.2≠.free
theorem jE {i:Str->Option NameKind}{x:Str}:∀ {d:List (Str×Value)}{m:Str->Option Value},(∀ v,(x,v)∉d)->bindL i d m x=m x
 | [],_,_=>rfl
 | (n,v)::r,m,h=>by
  unfold bindL
  rw[jE λ w j=>h w (BQ _ j)]
  split
  ·have:x≠n:=by rintro rfl;exact h v BR
   simp[this]
  ·rfl
theorem jF {i:Str->Option NameKind}{x:Str}:∀ {d:List (Str×Value)}{m:Str->Option Value},(∀ v,(x,v)∉d)->bindC i d m x=m x
 | [],_,_=>rfl
 | (n,v)::r,m,h=>by
  unfold bindC
  rw[jF λ w j=>h w (BQ _ j)]
  split
  ·rfl
  ·have:x≠n:=by rintro rfl;exact h v BR
   simp[this]
theorem gz {d:Str->Option NameKind}{x:Str}{v:Value}:∀ {P:List Str}{vs:List Value}{i:Nat}{m:Str->Option Value},P.Nodup->P[i]? = some x->vs[i]? = some v->d x=some .local ->
  bindL d (P.zip vs) m x=some v
 | [],_,_,_,_,h,_,_=>by simp at h
 | _::_,[],_,_,_,_,h,_=>by simp at h
 | p::P,w::vs,0,m,nd,h1,h2,hk=>by
  simp at h1 h2;subst h1;subst h2
  show bindL d ((p,w)::P.zip vs) m p=_
  unfold bindL
  rw[jE λ v j=>(CC.mp nd).1 (EB j).1,BN hk]
  simp
 | p::P,w::vs,i+1,m,nd,h1,h2,hk=>by
  show bindL d ((p,w)::P.zip vs) m x=_
  unfold bindL
  exact gz (i:=i) (CC.mp nd).2 (by simpa using h1) (by simpa using h2) hk
theorem jx {d:Str->Option NameKind}{x:Str}{v:Value}:∀ {P:List Str}{vs:List Value}{i:Nat}{m:Str->Option Value},P.Nodup->P[i]? = some x->vs[i]? = some v->d x≠some .local ->
  bindC d (P.zip vs) m x=some v
 | [],_,_,_,_,h,_,_=>by simp at h
 | _::_,[],_,_,_,_,h,_=>by simp at h
 | p::P,w::vs,0,m,nd,h1,h2,hk=>by
  simp at h1 h2;subst h1;subst h2
  show bindC d ((p,w)::P.zip vs) m p=_
  unfold bindC
  rw[jF λ v j=>(CC.mp nd).1 (EB j).1,BI hk]
  simp
 | p::P,w::vs,i+1,m,nd,h1,h2,hk=>by
  show bindC d ((p,w)::P.zip vs) m x=_
  unfold bindC
  exact jx (i:=i) (CC.mp nd).2 (by simpa using h1) (by simpa using h2) hk
noncomputable def start (N:List Str) (vs:List V):St:=vs.map some++List.replicate (N.length-vs.length) none
noncomputable def dN (CX:CXT) (P:Program) (w:World) (K:PySem.W.Frag) (mg:Str->Option Value) (base:Heap) (N:List Str) (qual:Str) (scope:Scope) (f:Addr) (cd:Value) (A:Around) (outer:List Env) (s:Shared) (H:Hp) (E:XK):Cx where
 prog:=P
 w:=w
 K:=K
 mg:=mg
 base:=base
 A:=A.deeper (envOfC qual scope s.heap.objs.size f cd)
 N:=N
 s₀:=s
 H₀:=H
 env:=envOfC qual scope s.heap.objs.size f cd
 outer:=outer
 stack:=envOfC qual scope s.heap.objs.size f cd::outer
 ex:=[]
 calm:=true
 fn:=λ _=>true
 pn:=[]
 xe:=λ e s'=>wpAny (model P w) (A.deeper (envOfC qual scope s.heap.objs.size f cd)) (leaving (envOfC qual scope s.heap.objs.size f cd) e) (λ _ s''=>CX outer H s E e s'') (λ e' s''=>CX outer H s E e' s'') s'
theorem iB {sc:Scope}{n:Nat}{x:Str}(h:sc.names.lookup x=some .cell):∃ c,(cellsFrom n sc.names []).lookup x=some c:=by
 have q:=E7 sc.names n [] (.inl h)
 exact Option.isSome_iff_exists.mp q
theorem jN {CX:CXT}{P:Program}{w:World}{K:PySem.W.Frag}{mg:Str->Option Value}{base:Heap}{N ps:List Str}{qual:Str}{scope:Scope}{f:Addr}{cd:Value}{A:Around}{outer:List Env}{s s1:Shared}{H:Hp}{E:XK}{us:List Value}{vs:List V}
  (S:aQ N ps scope) (hd:A.handled=none) (e0:j8 P w K mg base A outer s H) (hl:vs.length=ps.length) (r:Vals vs us)
  (x:InCallC s s.heap.objs.size (bindL (envOfC qual scope s.heap.objs.size f cd).kindOf (ps.zip us) λ _=>none) (cellsFrom (s.heap.objs.size+1) scope.names []) (bindC (envOfC qual scope s.heap.objs.size f cd).kindOf (ps.zip us) λ _=>none) s1) :
  Inv (dN CX P w K mg base N qual scope f cd A outer s H E) [] (start N vs) H s1:=by
 have hpl:ps.length<=N.length:=by have:=congrArg List.length S.pre;rw[CB] at this;lia
 obtain⟨h1,tk,rfl,hk⟩:=x.done
 have noA:∀ b:Addr,b∉(dN CX P w K mg base N qual scope f cd A outer s H E).ex:=λ b z=>absurd (show b∈([]:List Addr) from z) (by simp)
 refine⟨⟨e0.mod,S.kind,rfl,rfl,Nat.le_refl _,λ y z c h1 h2=>?_,λ y hy=>?_,λ y c _ h=>?_,λ _=>hd,Around.frames_deeper e0.frames,.inr ⟨rfl,rfl⟩,λ b z=>absurd z (noA b),e0.bs,e0.bsz,λ b _ _=>noA b,λ b z=>absurd z (noA b),e0.gv,e0.frf⟩,
  rfl,e0.bare,Un.kept hk,⟨_,x.toInCall.ns,λ i y v h1 h2 h3=>?_⟩,λ y c h=>⟨_,x.cell y c h⟩,e0.hok.fresh (Nat.le_refl _),λ y c h=>?_,λ p hp=>absurd (show p∈([]:List (Addr×Obj)) from hp) (by simp),e0.hok.kept hk,?_⟩
 ·exact name_of_addr x.apart (CA h1) (CA h2)
 ·have hy:scope.names.lookup y=some .cell\/scope.names.lookup y=some .free:=hy
  rcases hy with hy|hy
  ·exact iB hy
  ·exact absurd rfl (S.nofree _ (CA hy))
 ·exact DF (x.above y c (CA h))
 ·have hi:i<vs.length:=by
   unfold start at h2
   by_cases hi:i<vs.length
   ·exact hi
   ·rw[B5 (by simpa using hi)] at h2
    rw[Eh] at h2
    split at h2<;>cases h2
  have ha:vs[i]? = some v:=by
   unfold start at h2
   rw[Cn (by simpa using hi),BC] at h2
   cases e:vs[i]? with
   | none=>rw[e] at h2;cases h2
   | some a=>rw[e] at h2;cases h2;rfl
  obtain⟨u,hu,rv⟩:=r.get ha
  have hp:ps[i]? = some y:=by
   rw[<- S.pre,EW (by lia)];exact h1
  have ndP:ps.Nodup:=by rw[<- S.pre];exact S.nd.sublist (FG _ _)
  refine⟨u,rv,?_⟩
  rcases S.par y (BJ hp) with k|k
  ·exact .inl ⟨k,gz ndP hp hu k⟩
  ·obtain⟨c,e⟩:=iB (n:=s.heap.objs.size+1) k
   refine .inr ⟨.inl k,c,e,?_⟩
   have q:=x.cell y c e
   rw[jx ndP hp hu (by show scope.names.lookup y≠_;rw[k];decide)] at q
   exact q
 ·exact .inl (e0.hok.fresh (DF (x.above y c (CA h))))
 ·unfold start
  show _=N.length
  rw[BL,BB,CK]
  lia
theorem uB {CX:CXT}{P:Program}{w:World}{K:PySem.W.Frag}{U:Str->Option Value}{base:Heap}{k:Nat}{f:Addr}{name qual:Str}{l:Arguments}{z:List Stmt}{d:Scope}{dV kV L pm j ct oc:Value}{an od:Option Addr}
  {a0:Array (Option Value)}{N ps:List Str}{sp:Sp}(lk:K.lookup f=some ⟨oc,od,.func (PySem.W.fnOf name qual l z d dV kV L pm an j ct),a0⟩) (W:PySem.W.codeIn K j qual=true) (S:aQ N ps d)
  (T:∀ vs H Q E,sp vs H Q E->vs.length=ps.length)
  (D:∀ (A:Around) (i:List Env) (s:Shared) (H:Hp) (vs:List V) (Q:VK) (E:XK),cB k (A.deeper (envOfC qual d s.heap.objs.size f j))->sp vs H Q E ->
   ∃ t,PSs (dN CX P w K U base N qual d f j A i s H E) z t/\t { nx:=λ _ H'=>Q .non H',rt:=Q } (start N vs) H) :
  bB P w K U base CX (k+1) f (PySem.W.fnOf name qual l z d dV kV L pm an j ct) ps sp:=by
 refine⟨T,λ A i s H a1 us vs Q E Y M hb r R=>?_⟩
 have hl:=T _ _ _ _ R
 have KX:K.In s.heap:=M.mod.kin.keeps λ b o e=>(M.bs b o e).1
 have Z:s.heap.NoLimit:=M.mod.nolimit.keeps λ b o e=>(M.bs b o e).1
 have F:∀ y∈ps.zip us,d.names.lookup y.1=some .local\/(d.names.lookup y.1=some .cell/\((cellsFrom (s.heap.objs.size+1) d.names []).lookup y.1).isSome=true):=λ⟨n,v⟩ hy=>by
  rcases S.par n (EB hy).1 with q|q
  ·exact .inl q
  ·exact .inr ⟨q,E7 _ _ _ (.inl q)⟩
 refine codeAny_call_function Y.depth (KX _ _ lk) rfl S.co S.gen rfl (PySem.W.codeRec_of KX W) (hb _ _ _ _ ?_)
 refine wpAny_newFunctionEnv_cells S.kind F λ a2 he s1 x=>?_
 subst he
 refine⟨Z.keeps x.toInCall.keep,codeAny_func ?_⟩
 obtain⟨t,ht,hq⟩:=D A i s H vs Q E (Y.deeper _) R
 have I:Inv (dN CX P w K U base N qual d f j A i s H E) [] (start N vs) H s1:=jN S Y.hd M hl r x
 refine Cw (ht [] s1 (start N vs) H _ I hq) (λ fl s' G=>?_) λ e s' G=>G
 have O:∀ {B:St} {H':Hp} {v:V} {u:Value},Inv (dN CX P w K U base N qual d f j A i s H E) [] B H' s'->RelV v u->Q v H'->CE i P w H s Q u s':=
  λ{B H' v u} J rv q=>⟨v,H',J.os,J.bare,J.base,J.hok,rv,q⟩
 cases fl with
 | ret u=>
  obtain⟨v,B,H',J,rv,q⟩:=G
  exact O J rv q
 | next=>
  obtain⟨B,H',J,q⟩:=G
  exact O (v:=V.non) (u:=Value.none) J rfl q
 | brk=>
  obtain⟨_,_,_,q⟩:=G
  exact False.elim q
 | cont=>
  obtain⟨_,_,_,q⟩:=G
  exact False.elim q
section
variable {X:Cx}{x:Str}{p pos:Pos}{e:Expr}{es:List Expr}{t:TA}{id T:String}{r:List V->Hp->VK->Prop}
noncomputable def tCB (r:List V->Hp->VK->Prop) (t:TA):TE:=λ σ H Q=>t σ H λ vs H1=>r vs H1 Q
theorem bP (n:cx X (.builtin id) r) (y:Gl X x) (z:X.mg x=none) (D:bootBuiltins x=some (.builtin id)) (l:PA X (e::es) t) (B:x ≠ "__name__":=by decide) (d:(x == ("__debug__" : Str))=false:=by decide)
  (q:starEach (e::es) X.env=(false,eval e X.env)::starEach es X.env:=by rfl) (i:(backTo pos (starEach es X.env)).any (·.1)=false:=by rfl):PE X (.Call (.Name x p) (e::es) [] pos) (tCB r t):=by
 intro pins s σ H Q I h
 refine Ec (gH I y z D ?_ B d)
 exact PyProof.Rows.callWith_builtin1 (thn (l pos pins s σ H _ I h) λ L J ⟨M,H1,j,G,F⟩=>n pins J σ H1 M L Q j G F) q i
theorem bX (n:cx X (.type T) r) (y:Gl X x) (z:X.mg x=none) (D:bootBuiltins x=some (.type T)) (l:PA X (e::es) t) (B:x ≠ "__name__":=by decide) (d:(x == ("__debug__" : Str))=false:=by decide)
  (q:starEach (e::es) X.env=(false,eval e X.env)::starEach es X.env:=by rfl) (i:(backTo pos (starEach es X.env)).any (·.1)=false:=by rfl):PE X (.Call (.Name x p) (e::es) [] pos) (tCB r t):=by
 intro pins s σ H Q I h
 refine Ec (gH I y z D ?_ B d)
 exact DX (thn (l pos pins s σ H _ I h) λ L J ⟨M,H1,j,G,F⟩=>n pins J σ H1 M L Q j G F) q i
end
end L2
namespace HT
open PySem PyProof.Rows
section
open PySem.SeqAt
open PySem.AutoSeq1 (wpAny_loadPart')
open PySem.MeetsSeq PySem.MeetsSeq2 PySem.MeetsSeq3
end
section
variable {prog:Program}{w:World}{A:Around}{E:Value->Shared->Prop}{s:Shared}
noncomputable def sIx (n d:Nat):Option Int->Nat
 | none=>d
 | some v=>if v<0 then (v+(n:Int)).toNat else min v.toNat n
end
end HT
namespace L2
open PySem PySem.Spec PyProof.Rows
noncomputable abbrev TO:=St->Hp->(Option Int->Hp->Prop)->Prop
noncomputable def PO (X:Cx) (e:Option Expr) (t:TO):Prop:=
 ∀ (pins:List (Addr×Obj)) (s:Shared) (σ:St) (H:Hp) (Q:Option Int->Hp->Prop),Inv X pins σ H s->t σ H Q ->
  wpAny (model X.prog X.w) X.A (evalPart e X.env) (λ u s'=>∃ o H',Inv X pins σ H' s'/\IsPart u o/\Q o H') X.xe s
noncomputable def oM:TO:=λ _ H Q=>Q none H
noncomputable def vp (t:TE):TO:=λ σ H Q=>t σ H λ x H1=>∃ i,x=.int i/\Q (some i) H1
section
variable {X:Cx}{e:Expr}{te:TE}{lo hi:Option Expr}{tl th:TO}{pos p2:Pos}
theorem tR:PO X none oM:=by
 intro pins s σ H Q I h
 rw[evalPart_none]
 exact BA ⟨none,H,I,.none,h⟩
theorem ue (h:PE X e te):PO X (some e) (vp te):=by
 intro pins s σ H Q I j
 rw[evalPart_some]
 refine thn (h pins s σ H _ I j) λ u y ⟨x,H1,d,n,l⟩=>?_
 obtain⟨i,rfl,q⟩:=l
 obtain⟨t,rfl⟩:=n
 exact⟨some i,H1,d,.int i t,q⟩
noncomputable def SlR (X:Cx) (r:V->Option Int->Option Int->Hp->VK->Prop):Prop:=
 ∀ (pins:List (Addr×Obj)) (s:Shared) (σ:St) (H:Hp) (x:V) (v vl vu:Value) (lo hi:Option Int) (sl:Addr) (Q:VK),Inv X pins σ H s->RelV x v->s.heap.IsSliceOf sl vl vu .none->IsPart vl lo->IsPart vu hi->r x lo hi H Q ->
  ∃ T id,typeLookup (.type T) "__getitem__" = pure (some (.builtin id))/\s.TypeIs v T/\wpAny (model X.prog X.w) X.A (getItem v (.ref sl)) (EP X pins σ Q) X.xe s
noncomputable def tSl (r:V->Option Int->Option Int->Hp->VK->Prop) (te:TE) (tl th:TO):TE:=λ σ H Q=>te σ H λ x H1=>tl σ H1 λ l H2=>th σ H2 λ u H3=>r x l u H3 Q
theorem sQ (M:SlR X r) (G:PE X e te) (L:PO X lo tl) (O:PO X hi th):PE X (.Subscript e (.Slice lo hi none p2) pos) (tSl r te tl th):=by
 intro pins s σ H Q I h
 refine Subscript_ (thn (G pins s σ H _ I h) λ v Z ⟨x,H1,y,Y,U⟩=>?_)
 refine wpAny_Slice (thn (L pins Z σ H1 _ y U) λ i s2 ⟨l,H2,z,R,V⟩=>thn (O pins s2 σ H2 _ z V) λ j d ⟨u,n,B,S,W⟩=>?_)
 rw[evalPart_none]
 refine BA ?_
 have D:Inv X pins σ n { d with heap:=d.heap.push { cls:=.type "slice",data:=.fields #[i,j,.none] } }:=B.kept (t':=d.toks) λ b ob q=>Heap.get?_push_of_some _ q
 obtain⟨T,id,F,N,J⟩:=M pins { d with heap:=d.heap.push { cls:=.type "slice",data:=.fields #[i,j,.none] } } σ n x v i j l u d.heap.objs.size Q D Y (Heap.IsSliceOf.new ..) R S W
 show wpAny (model X.prog X.w) X.A (subscriptTail e (.Slice lo hi none p2) v (.ref d.heap.objs.size)) (EP X pins σ Q) X.xe { d with heap:=d.heap.push { cls:=.type "slice",data:=.fields #[i,j,.none] } }
 exact tail_any (ops:=[.ref d.heap.objs.size,v]) N F J (by with_unfolding_all rfl)
noncomputable def mS (xs:List V) (lo hi:Option Int):List V:=(xs.drop (HT.sIx xs.length 0 lo)).take (HT.sIx xs.length xs.length hi-HT.sIx xs.length 0 lo)
theorem lI (xs) (lo hi):(mS xs lo hi).length<=xs.length:=by
 unfold mS
 rw[CB,E5]
 lia
end
noncomputable def ixN (n:Nat) (i:Int):Option Nat:=if 0<=i then (if i<n then some i.toNat else none) else if -(n:Int)<=i then some (i+n).toNat else none
noncomputable def atI {α:Type}(xs:List α) (i:Int):Option α:=(ixN xs.length i).bind λ j=>xs[j]?
theorem ti (h:ixN n i=some j):seqIndex? i n=some j/\j<n /\ -(n:Int)<=i/\i<n:=by
 unfold ixN at h
 by_cases d:0<=i
 ·rw[BN d] at h
  by_cases h1:i<n
  ·rw[BN h1] at h
   have e:i.toNat=j:=Option.some.inj h
   exact⟨by rw[seqIndex_of d h1,e],by lia,by lia,h1⟩
  ·rw[BI h1] at h;cases h
 ·rw[BI d] at h
  by_cases h1 : -(n:Int)<=i
  ·rw[BN h1] at h
   have e:(i+n).toNat=j:=Option.some.inj h
   exact⟨by rw[seqIndex_neg (by lia) h1,e],by lia,h1,by lia⟩
  ·rw[BI h1] at h;cases h
theorem oY (h:atI xs i=some v):∃ j,seqIndex? i xs.length=some j/\xs[j]? = some v/\j<xs.length /\ -(xs.length:Int)<=i/\i<xs.length:=by
 unfold atI at h
 cases e:ixN xs.length i with
 | none=>rw[e] at h;cases h
 | some j=>
  rw[e] at h
  obtain⟨h1,h2,d,l⟩:=ti e
  exact⟨j,h1,h,h2,d,l⟩
theorem cM {d:Type}{xs:List d}{j:Nat}{v:d}(h:xs[j]? = some v):atI xs (j:Int)=some v:=by
 have i:j<xs.length:=(BE.mp h).1
 have e:ixN xs.length (j:Int)=some j:=by
  unfold ixN
  rw[BN (by lia),BN (by lia)];simp
 unfold atI;rw[e];exact h
theorem eO (xs) (v:α):atI (xs++[v]) (-1)=some v:=by
 have d:(xs++[v]).length=xs.length+1:=by simp
 have e:ixN (xs++[v]).length (-1)=some xs.length:=by
  unfold ixN
  rw[d,BI (by decide),BN (by lia)]
  congr 1
  lia
 unfold atI
 rw[e]
 show (xs++[v])[xs.length]? = some v
 simp
noncomputable def ur (b:Expr):Prop:=∀ o i,subscripted b false o i=operate [o,i] (getItem o i)
noncomputable def IxR (X:Cx) (r:R2):Prop:=
 ∀ (value slice:Expr) (pins:List (Addr×Obj)) (s:Shared) (σ:St) (H:Hp) (x y:V) (v u:Value) (Q:VK),Inv X pins σ H s->RelV x v->RelV y u->r x y H Q ->
  subscripted slice false v u=operate [v,u] (getItem v u)->wpAny (model X.prog X.w) X.A (subscriptTail value slice v u) (EP X pins σ Q) X.xe s
noncomputable def MtR (X:Cx) (id:String) (r:V->List V->Hp->VK->Prop):Prop:=
 ∀ (pins:List (Addr×Obj)) (s:Shared) (σ:St) (H:Hp) (x:V) (xs:List V) (v:Value) (us:List Value) (Q:VK),Inv X pins σ H s->RelV x v->Vals xs us->r x xs H Q ->
  wpAny (model X.prog X.w) X.A (call (.builtin id) (v::us)) (EP X pins σ Q) X.xe s
section
variable {X:Cx}{a b:Expr}{ta tb:TE}{pos:Pos}
theorem bb {r:R2}(l:IxR X r) (i:PE X a ta) (j:PE X b tb) (hs:ur b):PE X (.Subscript a b pos) (tOp r ta tb):=by
 intro pins s σ H Q I h
 exact Subscript_ (vZ i j I h λ v u B x y H2 d n z q=>l a b pins B σ H2 x y v u Q d n z q (hs _ _))
noncomputable def wJ (K:PySem.W.Frag):R2:=λ x y H Q=>∃ p xs i v,x=.ref p/\y=.int i/\SqL K H p xs/\atI xs i=some v/\Q v H
noncomputable def yU (K:PySem.W.Frag):R2:=λ x y H Q=>∃ p xs i v,x=.ref p/\y=.int i/\SqT K H p xs/\atI xs i=some v/\Q v H
theorem tY:IxR X (wJ X.K):=by
 intro value F pins s σ H x y v u Q I U V h L
 obtain⟨p,xs,i,z,rfl,rfl,S,O,q⟩:=h
 cases U
 obtain⟨t,rfl⟩:=V
 obtain⟨n,r,B,Z⟩:=I.list S
 obtain⟨j,h1,h2,W,M,N⟩:=oY O
 obtain⟨w,G,D⟩:=r.get h2
 have R:=r.length
 have Y:=jY
 have d:EP X pins σ Q w s:=⟨z,H,I,D,q⟩
 by_cases J:0<=i
 ·have l:i.toNat=j:=by
   rw[seqIndex_of J N] at h1
   exact Option.some.inj h1
  exact item_listR B.isList J (by lia) (by rw[l];simpa using G) d L
 ·have l:(i+(n.toArray.size:Int)).toNat=j:=by
   rw[seqIndex_neg (by lia) M] at h1
   rw[B9,<- R]
   exact Option.some.inj h1
  exact subscriptTail_builtinR (x:=w) B.isList.typeIs slot_list_getitem.lookup
   (wpAny_getItem_list_neg (Q:=λ r s'=>r=w/\EP X pins σ Q r s') B.isList (by lia) (by rw[B9]<;>lia) (by lia) (by rw[l];simpa using G) ⟨rfl,d⟩) L
theorem wg:IxR X (yU X.K):=by
 intro value n pins s σ H x y v u Q I N O h L
 obtain⟨p,xs,i,z,rfl,rfl,J,F,q⟩:=h
 cases N
 obtain⟨t,rfl⟩:=O
 obtain⟨M,r,B,W⟩:=I.tuple J
 obtain⟨j,h1,h2,R,S,U⟩:=oY F
 obtain⟨w,D,l⟩:=r.get h2
 have G:=r.length
 have V:=jY
 have d:EP X pins σ Q w s:=⟨z,H,I,l,q⟩
 exact subscriptTail_builtinR (x:=w) B.typeIs slot_tuple_getitem.lookup
  (getItem_tuple (j:=j) (Q:=λ r s'=>r=w/\EP X pins σ Q r s') B (by lia) (by lia) (by rw[B9,<- G];exact h1) (by simpa using D) ⟨rfl,d⟩) L
theorem kH (lo hi) (n):(sliceBounds lo hi none n).1=((HT.sIx n 0 lo:Nat):Int)/\(sliceBounds lo hi none n).2.1=((HT.sIx n n hi:Nat):Int)/\(sliceBounds lo hi none n).2.2=1:=by
 refine⟨?_,?_,rfl⟩
 ·cases lo with
  | none=>simp[sliceBounds,HT.sIx]
  | some i=>
   simp only[sliceBounds,HT.sIx,Option.getD_none,show (1:Int)>0 by decide,DK]
   by_cases h:i<0
   ·simp only[h,DK]<;>lia
   ·simp only[h,CJ]<;>lia
 ·cases hi with
  | none=>simp[sliceBounds,HT.sIx]
  | some i=>
   simp only[sliceBounds,HT.sIx,Option.getD_none,show (1:Int)>0 by decide,DK]
   by_cases h:i<0
   ·simp only[h,DK]<;>lia
   ·simp only[h,CJ]<;>lia
theorem jk (its:List Value) (lo hi:Option Int):slicePick its.toArray lo hi none=((its.drop (HT.sIx its.length 0 lo)).take (HT.sIx its.length its.length hi-HT.sIx its.length 0 lo)).toArray:=by
 obtain⟨h1,h2,d⟩:=kH lo hi its.toArray.size
 unfold slicePick
 rw[h1,h2,d]
 simp only[sliceRange_one,pick_run,B9]<;>rfl
noncomputable def v5 (K:PySem.W.Frag):V->Option Int->Option Int->Hp->VK->Prop:=λ x lo hi H Q=>∃ a xs,x=.ref a/\SqL K H a xs/\∀ p,H p=none->Q (.ref p) (upd H p (.lst (mS xs lo hi)))
theorem sU:SlR X (v5 X.K):=by
 intro pins s σ H x v J L lo hi G Q I D j z B h
 obtain⟨a,xs,rfl,l,q⟩:=h
 cases D
 obtain⟨y,r,i,n⟩:=I.list l
 have d:=r.length
 refine⟨"list",_,slot_list_getitem.lookup,i.isList.typeIs,?_⟩
 refine wpAny_getItem_list_slice i.isList j z B .none (by simp) ?_ (by rw[B9]<;>lia)
 rw[jk,<- d]
 refine⟨.ref s.heap.objs.size,_,I.laid (t':=s.toks) (o:=.lst (mS xs lo hi)) (λ b F q=>Heap.get?_push_of_some _ q) (Nat.le_refl _) ?_,rfl,q _ (I.hok.fresh (Nat.le_refl _))⟩
 exact⟨B6 (lI xs lo hi) n,_,0,(r.drop (HT.sIx xs.length 0 lo)).take (HT.sIx xs.length xs.length hi-HT.sIx xs.length 0 lo),Heap.get?_push_size _ rfl⟩
noncomputable def dM:V->Bool
 | .non=>true
 | .bl _=>true
 | .int _=>true
 | .str _=>true
 | _=>false
noncomputable def eqV:V->V->Bool
 | .non,.non=>true
 | .bl a,.bl b=>a == b
 | .bl a,.int b=>(if a then 1 else 0) == b
 | .int a,.bl b=>a == (if b then 1 else 0)
 | .int a,.int b=>a == b
 | .str a,.str b=>a == b
 | _,_=>false
theorem vH {A:Around}{s:Shared}{y x:V}{u v:Value}(ry:RelV y u) (rx:RelV x v) (fy:dM y=true) (fx:dM x=true):SeqAt.EqAt A s u v (eqV y x):=by
 cases y with
 | non=>
  cases ry
  cases x with
  | non=>cases rx;exact SeqAt.EqAt.same _
  | bl b=>cases rx;exact SeqAt.EqAt.none_bool b
  | int b=>obtain⟨t,rfl⟩:=rx;exact SeqAt.EqAt.none_int b t
  | str b=>obtain⟨t,rfl⟩:=rx;exact SeqAt.EqAt.none_str b t
  | _=>exact absurd (show false=true from fx) B4
 | bl a=>
  cases ry
  cases x with
  | non=>cases rx;exact SeqAt.EqAt.bool_none a
  | bl b=>cases rx;exact SeqAt.EqAt.bool_bool a b
  | int b=>obtain⟨t,rfl⟩:=rx;exact SeqAt.EqAt.bool_int a b t
  | str b=>obtain⟨t,rfl⟩:=rx;exact SeqAt.EqAt.bool_str a b t
  | _=>exact absurd (show false=true from fx) B4
 | int a=>
  obtain⟨t',rfl⟩:=ry
  cases x with
  | non=>cases rx;exact SeqAt.EqAt.int_none a t'
  | bl b=>cases rx;exact SeqAt.EqAt.int_bool a t' b
  | int b=>obtain⟨t,rfl⟩:=rx;exact SeqAt.EqAt.int_int a t' b t
  | str b=>obtain⟨t,rfl⟩:=rx;exact SeqAt.EqAt.int_str a t' b t
  | _=>exact absurd (show false=true from fx) B4
 | str a=>
  obtain⟨t',rfl⟩:=ry
  cases x with
  | non=>cases rx;exact SeqAt.EqAt.str_none a t'
  | bl b=>cases rx;exact SeqAt.EqAt.str_bool a t' b
  | int b=>obtain⟨t,rfl⟩:=rx;exact SeqAt.EqAt.str_int a t' b t
  | str b=>obtain⟨t,rfl⟩:=rx;exact SeqAt.EqAt.str_str a t' b t
  | _=>exact absurd (show false=true from fx) B4
 | _=>exact absurd (show false=true from fy) B4
noncomputable def eqU (x:V) (u:Value):Bool:=match u with
 | .none=>eqV .non x
 | .bool b=>eqV (.bl b) x
 | .int i _=>eqV (.int i) x
 | .str z _=>eqV (.str z) x
 | _=>false
theorem sx {x y:V}{u:Value}(r:RelV y u) (f:dM y=true):eqU x u=eqV y x:=by
 cases y with
 | non=>cases r;rfl
 | bl b=>cases r;rfl
 | int i=>obtain⟨t,rfl⟩:=r;rfl
 | str z=>obtain⟨t,rfl⟩:=r;rfl
 | _=>exact absurd (show false=true from f) B4
theorem fS:∀ {xs:List V}{us:List Value},Vals xs us->xs.all dM=true->us.any (eqU x)=xs.any λ y=>eqV y x
 | _,_,.nil,_=>rfl
 | y::xs,u::us,.cons r t,f=>by
  rw[EY,CG] at f
  rw[EX,EX,sx r f.1,fS t f.2]
theorem eX {A:Around}{s:Shared}{x:V}{v:Value}(rx:RelV x v) (fx:dM x=true):∀ {xs:List V}{us:List Value},Vals xs us->xs.all dM=true->∀ u∈us,SeqAt.EqAt A s u v (eqU x u)
 | _,_,.nil,_=>λ u hu=>by cases hu
 | y::xs,u::us,.cons r t,f=>λ u' hu=>by
  rw[EY,CG] at f
  rcases BF.mp hu with rfl|hu
  ·rw[sx r f.1];exact vH r rx f.1 fx
  ·exact eX rx fx t f.2 u' hu
noncomputable def inV (x:V) (xs:List V):Bool:=xs.any λ y=>eqV y x
noncomputable def rIn (K:PySem.W.Frag) (neg:Bool):R2:=λ x y H Q=>∃ p xs,y=.ref p/\(SqL K H p xs\/SqT K H p xs)/\dM x=true/\xs.all dM=true/\Q (.bl (if neg then !inV x xs else inV x xs)) H
theorem qt:OpR X (compareOp .In) (rIn X.K false):=by
 intro pins s σ H x y v u Q I rx ry h
 obtain⟨p,xs,rfl,hq,fx,fs,q⟩:=h
 cases ry
 rcases hq with hq|hq
 ·obtain⟨its,r,pl,hz⟩:=I.list hq
  refine SeqAt.in_listAt (eqU x) pl.isList (λ w hw=>eX rx fx r fs w (by simpa using hw)) ⟨.bl _,H,I,rfl,?_⟩
  rw[show its.toArray.any (eqU x)=its.any (eqU x) by simp,fS r fs]
  exact q
 ·obtain⟨its,r,pl,hz⟩:=I.tuple hq
  refine SeqAt.in_tupleAt (eqU x) pl (λ w hw=>eX rx fx r fs w (by simpa using hw)) ⟨.bl _,H,I,rfl,?_⟩
  rw[show its.toArray.any (eqU x)=its.any (eqU x) by simp,fS r fs]
  exact q
theorem ku:OpR X (compareOp .NotIn) (rIn X.K true):=by
 intro pins s σ H x y v u Q I rx ry h
 obtain⟨p,xs,rfl,hq,fx,fs,q⟩:=h
 cases ry
 rcases hq with hq|hq
 ·obtain⟨its,r,pl,hz⟩:=I.list hq
  refine SeqAt.notIn_listAt (eqU x) pl.isList (λ w hw=>eX rx fx r fs w (by simpa using hw)) ⟨.bl _,H,I,rfl,?_⟩
  rw[show its.toArray.any (eqU x)=its.any (eqU x) by simp,fS r fs]
  exact q
 ·obtain⟨its,r,pl,hz⟩:=I.tuple hq
  refine SeqAt.notIn_tupleAt (eqU x) pl (λ w hw=>eX rx fx r fs w (by simpa using hw)) ⟨.bl _,H,I,rfl,?_⟩
  rw[show its.toArray.any (eqU x)=its.any (eqU x) by simp,fS r fs]
  exact q
theorem j4:cx X (.builtin "len") (λ xs H Q=>∃ p ys,xs=[.ref p]/\(SqL X.K H p ys\/SqT X.K H p ys)/\Q (.int ys.length) H):=by
 intro pins s σ H xs D Q I r h
 obtain⟨p,ys,rfl,i,q⟩:=h
 obtain⟨u,rfl,z⟩:=vals1 r
 cases z
 have B:=jY
 rcases i with i|i
 ·obtain⟨j,n,l,y⟩:=I.list i
  have d:=n.length
  exact Calls.call_len_list l.isList (by simp only[B9]<;>lia) ⟨.int ys.length,H,I.tok _,⟨s.toks+1,by rw[B9,d]⟩,q⟩
 ·obtain⟨j,n,l,y⟩:=I.tuple i
  have d:=n.length
  exact len_tuple l (by simp only[B9]<;>lia) ⟨.int ys.length,H,I.tok _,⟨s.toks+1,by rw[B9,d]⟩,q⟩
theorem kh:cx X (.type "list") (λ xs H Q=>∃ p ys,xs=[.ref p]/\(SqL X.K H p ys\/SqT X.K H p ys)/\∀ l,H l=none->Q (.ref l) (upd H l (.lst ys))):=by
 intro pins s σ H xs O Q I r h
 obtain⟨p,ys,rfl,B,q⟩:=h
 obtain⟨u,rfl,N⟩:=vals1 r
 cases N
 have y:∀ (d:List Value),Vals ys d->ys.length<=sizeLine->∀ (h':Heap) (i:Nat),(∀ b o',s.heap.get? b=some o'->h'.get? b=some o') ->
   h'.get? s.heap.objs.size=some { cls:=.type "list",dict:=none,data:=.seq d.toArray i,slots:=#[] }->EP X pins σ Q (.ref s.heap.objs.size) { s with heap:=h' }:=λ d j D h' i F e=>
  ⟨.ref s.heap.objs.size,_,I.laid (t':=s.toks) F (Nat.le_refl _) (show bo X.prog X.w _ h' _ (.lst ys) from ⟨D,d,i,j,e⟩),rfl,q _ (I.hok.fresh (Nat.le_refl _))⟩
 rcases B with B|B
 ·obtain⟨d,j,M,D⟩:=I.list B
  have z:=j.length
  obtain⟨o,L,G,n,J⟩:=M.isList
  exact call_list_seq p (.inl rfl) L G J (λ h' i F e=>y d j D h' i F e) (by simp only[B9]<;>lia)
 ·obtain⟨d,j,M,D⟩:=I.tuple B
  have z:=j.length
  obtain⟨o,L,G,n,J⟩:=M
  exact call_list_seq p (.inr rfl) L G J (λ h' i F e=>y d j D h' i F e) (by simp only[B9]<;>lia)
theorem jq:cx X (.type "tuple") (λ xs H Q=>∃ p ys,xs=[.ref p]/\((SqL X.K H p ys/\∀ l,H l=none->Q (.ref l) (upd H l (.tup ys)))\/(SqT X.K H p ys/\Q (.ref p) H))):=by
 intro pins s σ H xs J Q I r h
 obtain⟨p,ys,rfl,h⟩:=h
 obtain⟨u,rfl,G⟩:=vals1 r
 cases G
 rcases h with ⟨i,q⟩|⟨i,q⟩
 ·obtain⟨d,n,j,B⟩:=I.list i
  have z:=n.length
  refine call_tuple_list j.isList (λ h' F=>?_) (by simp only[B9]<;>lia)
  have y:Inv X pins σ H { s with heap:=h' }:=I.kept (t':=s.toks) F
  have D:Inv X pins σ (upd H h'.objs.size (.tup ys)) { s with heap:=h'.push { cls:=.type "tuple",data:=.seq d.toArray } }:=
   y.laid (t':=s.toks) (λ b o e=>Heap.get?_push_of_some _ e) (Nat.le_refl _) (show bo X.prog X.w _ _ _ (.tup ys) from ⟨B,d,n,IsTup.new _ _⟩)
  exact⟨.ref h'.objs.size,_,D,rfl,q _ (y.hok.fresh (Nat.le_refl _))⟩
 ·obtain⟨d,n,j,B⟩:=I.tuple i
  exact call_tuple_same j ⟨.ref p,H,I,rfl,q⟩
noncomputable def tyV (K:PySem.W.Frag) (T:String) (x:V) (H:Hp):Prop:=match x with
 | .str _=>T = "str"
 | .int _=>T = "int"
 | .ref p=>(T = "list" /\ ∃ xs,SqL K H p xs)\/(T = "tuple" /\ ∃ o,K.lookup p=some o/\o.cls=.type "tuple" /\ o.dict=none) \/
   (T = "dict" /\ ((∃ kvs,H p=some (.dK kvs))\/∃ kvs,H p=some (.dT kvs)))\/(T = "set" /\ ∃ S n,H p=some (.set S n))
 | _=>False
theorem sC (I:Inv X pins σ H s) (r:RelV x v) (j:tyV X.K T x H) :
  s.TypeIs v T/\∀ a,v=.ref a->∃ B,s.heap.get? a=some B/\B.dict=none:=by
 cases x with
 | str z=>
  obtain⟨t,rfl⟩:=r
  cases (show T = "str" from j)
  exact⟨typeIs_str s z t,λ _ e=>nomatch e⟩
 | int i=>
  obtain⟨t,rfl⟩:=r
  cases (show T = "int" from j)
  exact⟨typeIs_int s i t,λ _ e=>nomatch e⟩
 | ref p=>
  cases r
  rcases j with ⟨rfl,xs,G⟩|⟨rfl,o,d,F,q⟩|⟨rfl,d⟩|⟨rfl,S,n,d⟩
  ·obtain⟨J,_,D,_⟩:=I.list G
   refine⟨D.isList.typeIs,λ a e=>?_⟩
   cases e
   obtain⟨o,n,e,c,q,_⟩:=D
   exact⟨o,e,q⟩
  ·refine⟨⟨o,I.kIn p o d,F⟩,λ a e=>?_⟩
   cases e
   exact⟨o,I.kIn _ o d,q⟩
  ·have z:∃ o,s.heap.get? p=some o/\o.ExactDict:=by
    rcases d with ⟨y,d⟩|⟨y,d⟩
    ·obtain⟨_,_,_,_,o,_,_,e,ex,_⟩:=I.hok p _ d
     exact⟨o,e,ex⟩
    ·obtain⟨_,_,_,_,o,_,_,e,ex,_⟩:=I.hok p _ d
     exact⟨o,e,ex⟩
   obtain⟨o,e,ex⟩:=z
   refine⟨⟨o,e,ex.1⟩,λ a l=>?_⟩
   cases l
   exact⟨o,e,ex.2.1⟩
  ·obtain⟨o,_,_,_,e,ex,_⟩:=I.hok p _ d
   refine⟨⟨o,e,ex.1⟩,λ a l=>?_⟩
   cases l
   exact⟨o,e,ex.2.1⟩
 | _=>exact False.elim j
noncomputable def AE (K:PySem.W.Frag) (T:String) (r:V->List V->Hp->VK->Prop) (to:TE):TE:=λ σ H Q=>to σ H λ x H1=>tyV K T x H1/\r x [] H1 Q
noncomputable def tBM (K:PySem.W.Frag) (T:String) (r:V->List V->Hp->VK->Prop) (to:TE) (t:TA):TE:=λ σ H Q=>to σ H λ x H1=>tyV K T x H1/\t σ H1 λ xs H2=>r x xs H2 Q
variable {o e:Expr}{es:List Expr}{to:TE}{t:TA}{name:Str}{apos cpos:Pos}{T id:String}{r:V->List V->Hp->VK->Prop}
theorem wO (B:PlainAttrs T) (j:Slot T name id) (l:typeOf (.builtin id)=pure (.type "method_descriptor")) (y:MtR X id r) (z:PE X o to)
  (d:attributeBase o name X.env (eval o X.env)=eval o X.env:=by rfl) (i:(apos.endLine == cpos.line)=true:=by rfl):PE X (.Call (.Attribute o name apos) [] [] cpos) (AE X.K T r to):=by
 intro pins s σ H Q I h
 refine wpAny_Call_method0_late d i (thn (z pins s σ H _ I h) λ v F ⟨x,H1,n,q,G,D⟩=>?_)
 obtain⟨h1,h2⟩:=sC n q G
 exact⟨T,id,B,j,l,h1,h2,Calls.callWith_builtin rfl (PySem.evalArgs_none (y pins F σ H1 x [] v [] Q n q .nil D))⟩
theorem yC (L:PlainAttrs T) (n:Slot T name id) (q:typeOf (.builtin id)=pure (.type "method_descriptor")) (G:MtR X id r) (J:PE X o to) (F:PA X (e::es) t)
  (i:attributeBase o name X.env (eval o X.env)=eval o X.env:=by rfl)
  (l:((backTo cpos (starEach (e::es) X.env)).all (λ x=>!x.1) && (backToKw cpos (keywordEach [] X.env)).all (λ x=>x.1.isSome)
   && decide ((e::es).length+([]:List Keyword).length+(if ([]:List Keyword).isEmpty then 0 else 1)<30))=true:=by rfl)
  (j:(apos.endLine == cpos.line)=true:=by rfl) (hs:starEach (e::es) X.env=(false,eval e X.env)::starEach es X.env:=by rfl) (d:(backTo cpos (starEach es X.env)).any (·.1)=false:=by rfl) :
  PE X (.Call (.Attribute o name apos) (e::es) [] cpos) (tBM X.K T r to t):=by
 intro pins s σ H Q I h
 refine wpAny_Call_method_late i l j rfl (thn (J pins s σ H _ I h) λ v R ⟨x,H1,y,B,U,M⟩=>?_)
 obtain⟨h1,h2⟩:=sC y B U
 refine⟨T,id,L,n,q,h1,h2,?_⟩
 have z:=F cpos pins R σ H1 _ y M
 rw[hs] at z ⊢
 refine Calls.callWith_builtin (by show (false || (backTo cpos (starEach es X.env)).any (·.1))=false;rw[d]<;>rfl) (Calls.evalArgs_plain ?_)
 exact thn z λ V S ⟨W,H2,D,O,N⟩=>G pins S σ H2 x W v V Q D B O N
end
noncomputable def MtM (X:Cx) (id:String) (r:V->List V->Hp->VK->Prop):Prop:=
 ∀ (pins:List (Addr×Obj)) (s:Shared) (σ:St) (H:Hp) (x:V) (xs:List V) (v:Value) (us:List Value) (Q:VK),Inv X pins σ H s->RelV x v->Vals xs us->r x xs H Q ->
  wpAny (model X.prog X.w) X.A (call (.builtin id) (v::us)) (EP X pins σ Q) X.xe s
theorem Vals.one:∀ {x:V}{us:List Value},Vals [x] us->∃ u,us=[u]/\RelV x u
 | _,_,.cons r .nil=>⟨_,rfl,r⟩
theorem Vals.zero:∀ {us:List Value},Vals [] us->us=[]
 | _,.nil=>rfl
theorem Vals.dropLast (h:Vals xs us):Vals xs.dropLast us.dropLast:=by
 induction h with
 | nil=>exact .nil
 | cons r t d=>
  cases t with
  | nil=>exact .nil
  | cons q i=>exact .cons r d
theorem nN (l:List α):l.eraseIdx (l.length-1)=l.dropLast:=by
 induction l with
 | nil=>rfl
 | cons a r d=>
  cases r with
  | nil=>rfl
  | cons b r=>
   have e:(a::b::r).length-1=((b::r).length-1)+1:=by
    have h1:(a::b::r).length=r.length+2:=rfl
    have h2:(b::r).length=r.length+1:=rfl
    lia
   rw[e,List.eraseIdx_cons_succ,d]
   all_goals rfl
section
variable {X:Cx}{pins:List (Addr×Obj)}{σ:St}{H:Hp}{s:Shared}{l b:Addr}{xs ys zs:List V}
theorem Inv.Am {its its':List Value}{n:Nat}{f:Array Value->Array Value}{t':Nat}(I:Inv X pins σ H s) (d:H l=some (.lst xs))
  (e:s.heap.get? l=some { cls:=.type "list",data:=.seq its.toArray n }) (j:f its.toArray=its'.toArray) (z:Vals ys its') (hz:ys.length<=sizeLine) :
  Inv X pins σ (upd H l (.lst ys)) { s with heap:=s.heap.update l (Obj.mapSeq f),toks:=t' }:=by
 have q:=PySem.IsL.update e f
 rw[j] at q
 refine I.write (x:=l) (e:=l) (by rw[d];exact trivial) (.inl rfl) (λ B u i y=>(Heap.get?_update_other s.heap (Obj.mapSeq f) (Ne.symm i)).trans y) ⟨_,q⟩ ?_
 exact⟨hz,its',_,z,q⟩
theorem Inv.Bl (I:Inv X pins σ H s) (d:Vals ys its) (hz:ys.length<=sizeLine) :
  Inv X pins σ (upd H s.heap.objs.size (.lst ys)) { s with heap:=s.heap.push { cls:=.type "list",data:=.seq its.toArray },toks:=t' }:=
 I.laid (λ _ _ q=>Heap.get?_push_of_some _ q) (Nat.le_refl _) ⟨hz,its,0,d,Heap.get?_push_size _ rfl⟩
theorem Inv.fresh (I:Inv X pins σ H s):H s.heap.objs.size=none:=I.hok.fresh (Nat.le_refl _)
theorem Inv.tM (I:Inv X pins σ H s) (d:H l=some (.lst xs)):xs.length<=sizeLine/\∃ (its:List Value) (n:Nat),Vals xs its/\xs.length=its.length/\s.heap.get? l=some { cls:=.type "list",data:=.seq its.toArray n }:=by
 obtain⟨z,its,n,r,e⟩:=I.hok l _ d
 exact⟨z,its,n,r,r.length,e⟩
end
section
variable {X:Cx}
noncomputable def n6:V->List V->Hp->VK->Prop:=λ x vs H Q=>∃ l xs y,x=.ref l/\vs=[y]/\H l=some (.lst xs)/\xs.length<sizeLine/\Q .non (upd H l (.lst (xs++[y])))
theorem bM:MtM X "list.append" n6:=by
 intro pins s σ H x M v L Q I D B h
 obtain⟨l,xs,y,rfl,rfl,i,J,q⟩:=h
 cases D
 obtain⟨u,rfl,j⟩:=B.one
 obtain⟨z,d,n,r,G,e⟩:=I.tM i
 refine call_meets F.slot_list_append ⟨_,e,rfl⟩ F.entry_list_append (F.args_list_append_2 _ _) (PySem.list_append l d.toArray n u (by rw[B9];lia)) ⟨e,?_⟩
 refine⟨.non,_,I.Am (its':=d++[u]) i e (by simp) (r.append (.cons j .nil)) ?_,rfl,q⟩
 rw[BL,B3]
 lia
noncomputable def Bm:V->List V->Hp->VK->Prop:=λ x vs H Q=>∃ l xs y,x=.ref l/\vs=[]/\H l=some (.lst xs)/\xs[xs.length-1]? = some y/\Q y (upd H l (.lst xs.dropLast))
theorem q5:MtM X "list.pop" Bm:=by
 intro pins s σ H x R v O Q I N M h
 obtain⟨l,xs,y,rfl,rfl,B,J,q⟩:=h
 cases N
 have i:=M.zero
 subst i
 obtain⟨z,d,n,r,D,e⟩:=I.tM B
 obtain⟨u,G,L⟩:=r.get J
 have j:d.toArray[d.toArray.size-1]? = some u:=by
  show d.toArray[d.length-1]? = some u
  rw[<- Cj,<- D]
  exact G
 refine call_meets F.slot_list_pop ⟨_,e,rfl⟩ F.entry_list_pop (F.args_list_pop_1 _) (MeetsSeq.list_pop_last l d.toArray n u j (by rw[B9];lia)) ⟨e,?_⟩
 refine⟨y,_,I.Am (its':=d.dropLast) B e ?_ r.dropLast ?_,L,q⟩
 ·show d.toArray.eraseIdxIfInBounds (d.toArray.size-1)=d.dropLast.toArray
  rw[B9,List.eraseIdxIfInBounds_toArray,nN]
 ·rw[List.length_dropLast]
  lia
noncomputable def Bt:R2:=λ x y H Q=>∃ l b xs zs,x=.ref l/\y=.ref b/\H l=some (.lst xs)/\H b=some (.lst zs)/\xs.length+zs.length<=sizeLine/\∀ p,H p=none->Q (.ref p) (upd H p (.lst (xs++zs)))
theorem wj:OpR X (binaryOp .Add) Bt:=by
 intro pins s σ H x y v u Q I L M h
 obtain⟨l,b,xs,zs,rfl,rfl,F,D,O,q⟩:=h
 cases L
 cases M
 obtain⟨z,i,n,r,N,e⟩:=I.tM F
 obtain⟨S,d,R,J,G,j⟩:=I.tM D
 refine PySem.P.add_list e j ?_ (by rw[B9,B9];lia)
 have B:i.toArray++d.toArray=(i++d).toArray:=by simp
 rw[B]
 exact⟨.ref _,_,I.Bl (t':=s.toks) (r.append J) (by rw[BL];lia),rfl,q _ I.fresh⟩
end
section
variable {prog:Program}{w:World}{A:Around}{E:Value->Shared->Prop}{s:Shared}
end
section
variable {X:Cx}
end
section
variable {κ:Type} [DecidableEq κ]
noncomputable def bL (kvs:List (κ×V)) (k:κ):Option V:=(kvs.find? λ kv=>decide (kv.1=k)).map (·.2)
noncomputable def putK (kvs:List (κ×V)) (k:κ) (v:V):List (κ×V):=
 if (kvs.any λ kv=>decide (kv.1=k))=true then kvs.map (λ kv=>if kv.1=k then (kv.1,v) else kv) else kvs++[(k,v)]
noncomputable def jt (kvs:List (κ×V)) (k:κ):List (κ×V):=kvs.filter λ kv=>decide (kv.1≠k)
theorem qy:bL ([]:List (κ×V)) k=none:=rfl
theorem bZ {p:κ×V}{r:List (κ×V)}{k:κ}(e:p.1=k):bL (p::r) k=some p.2:=by simp[bL,Eb,e]
theorem bU {p:κ×V}{r:List (κ×V)}{k:κ}(e:¬ p.1=k):bL (p::r) k=bL r k:=by simp[bL,Eb,e]
theorem dI (k:κ):∀ d:List (κ×V),(d.any λ i=>decide (i.1=k))=(bL d k).isSome
 | []=>rfl
 | p::r=>by
  rw[EX]
  by_cases e:p.1=k
  ·simp only[bZ e,Cu e,Bool.true_or,Option.isSome_some]
  ·rw[bU e,CL e,Bool.false_or];exact dI k r
theorem lG (k j:κ) (y:V):∀ d:List (κ×V),bL (d.map λ i=>if i.1=k then (i.1,y) else i) j=(bL d j).map λ x=>if j=k then y else x
 | []=>rfl
 | p::r=>by
  have n:=lG k j y r
  rw[Ce]
  by_cases h:p.1=k
  ·rw[BN h]
   by_cases e:p.1=j
   ·rw[bZ (p:=(p.1,y)) e,bZ e,Df,BN (e.symm.trans h)]
   ·rw[bU (p:=(p.1,y)) e,bU e,n]
  ·rw[BI h]
   by_cases e:p.1=j
   ·rw[bZ (p:=p) e,bZ e,Df,BI (λ z=>h (e.trans z))]
   ·rw[bU (p:=p) e,bU e,n]
theorem jA (k j:κ) (y:V):∀ d:List (κ×V),bL d k=none->bL (d++[(k,y)]) j=if j=k then some y else bL d j
 | [],_=>by
  by_cases e:k=j
  ·rw[BN e.symm];exact bZ (p:=(k,y)) e
  ·rw[BI (λ z=>e z.symm)];exact bU (p:=(k,y)) e
 | p::r,hn=>by
  rw[List.cons_append]
  have i:¬ p.1=k:=λ z=>by rw[bZ z] at hn;cases hn
  rw[bU i] at hn
  have n:=jA k j y r hn
  by_cases e:p.1=j
  ·rw[bZ e,bZ e,BI (λ z=>i (e.trans z))]
  ·rw[bU e,bU e,n]
theorem qL (d) (k j:κ) (y):bL (putK d k y) j=if j=k then some y else bL d j:=by
 unfold putK
 by_cases a:(d.any λ n=>decide (n.1=k))=true
 ·rw[BN a,lG]
  rw[dI] at a
  by_cases e:j=k
  ·obtain⟨x,i⟩:=Option.isSome_iff_exists.mp a
   rw[BN e,e,i,Df,BN rfl]
  ·rw[BI e]
   cases bL d j with
   | none=>rfl
   | some x=>rw[Df,BI e]
 ·rw[BI a]
  refine jA k j y d ?_
  rw[dI] at a
  cases q:bL d k with
  | none=>rfl
  | some x=>rw[q] at a;exact(a rfl).elim
theorem eK (d) (k:κ) (v):(putK d k v).length<=d.length+1:=by
 unfold putK
 split
 ·rw[BB];lia
 ·rw[BL,Ci,List.length_nil];lia
theorem fX {d:List (κ×V)}{k:κ}(v:V) (h:bL d k=none):putK d k v=d++[(k,v)]:=by
 unfold putK
 rw[dI,h]
 exact BI (by decide)
theorem eu.gO (r:eu o u):o.isSome=u.isSome:=by
 cases o with
 | none=>cases u with
  | none=>rfl
  | some _=>exact(show False from r).elim
 | some _=>cases u with
  | none=>exact(show False from r).elim
  | some _=>rfl
theorem eu.getD {o:Option V}{u:Option Value}{d:V}{d':Value}(r:eu o u) (i:RelV d d'):RelV (o.getD d) (u.getD d'):=by
 cases o with
 | none=>cases u with
  | none=>exact i
  | some _=>exact(show False from r).elim
 | some _=>cases u with
  | none=>exact(show False from r).elim
  | some _=>exact r
theorem KV.val {d:List (κ×V)}{vs:List (κ×Value)}(r:KV d vs) (k:κ):eu (bL d k) (valueAt vs k):=by
 unfold KV at r
 induction r with
 | nil=>exact True.intro
 | @cons p q ps j h t n=>
  obtain⟨h1,h2⟩:=h
  by_cases e:p.1=k
  ·have i:q.1=k:=h1.symm.trans e
   have b:valueAt (q::j) k=some q.2:=by simp[valueAt,Eb,i]
   rw[bZ e,b];exact h2
  ·have i:¬ q.1=k:=λ z=>e (h1.trans z)
   have b:valueAt (q::j) k=valueAt j k:=by simp[valueAt,Eb,i]
   rw[bU e,b];exact n
theorem KV.any (r:KV kvs vs) (k:κ):(kvs.any λ d=>decide (d.1=k))=vs.any λ d=>decide (d.1=k):=by
 unfold KV at r
 induction r with
 | nil=>rfl
 | cons h t i=>rw[EX,EX,i,h.1]
theorem KV.vG (r:KV kvs vs) (k:κ) (j:RelV y u) :
  KV (kvs.map λ d=>if d.1=k then (d.1,y) else d) (vs.map λ d=>if d.1=k then (d.1,u) else d):=by
 unfold KV at r ⊢
 induction r with
 | nil=>exact .nil
 | @cons p q ps n h t i=>
  rw[Ce,Ce]
  refine .cons ?_ i
  obtain⟨h1,h2⟩:=h
  by_cases e:p.1=k
  ·rw[BN e,BN (h1.symm.trans e)];exact⟨h1,j⟩
  ·rw[BI e,BI (λ z=>e (h1.trans z))];exact⟨h1,h2⟩
theorem KV.put (r:KV kvs vs) (k:κ) (d:RelV y u):KV (putK kvs k y) (stored vs k u):=by
 unfold putK stored
 rw[r.any k]
 by_cases e:(vs.any λ i=>decide (i.1=k))=true
 ·rw[BN e,BN e];exact r.vG k d
 ·rw[BI e,BI e];exact Paired.snoc r ⟨rfl,d⟩
theorem KV.length (r:KV kvs vs):kvs.length=vs.length:=Paired.length r
theorem sj (d) (k:κ):(jt d k).length<=d.length:=Dj _ _
end
theorem lD (r:RelV (kV k) u):(bO P w).is k u=true:=by
 cases k with
 | inl i=>obtain⟨t,e⟩:=(show ∃ t,u=Value.int i t from r);subst e;exact lj P w i t
 | inr x=>obtain⟨t,e⟩:=(show ∃ t,u=Value.str x t from r);subst e;exact mi P w x t
theorem jB:∀ {ks:List Key}{us:List Value},Vals (ks.map kV) us->ItemsAre (bO P w) ks us
 | [],_,r=>by rw[FH] at r;cases r;exact .nil
 | k::ks,_,r=>by
  rw[Ce] at r
  cases r with
  | cons h t=>exact .cons (lD h) (jB t)
noncomputable abbrev KT (H:Hp):List (List Key×V)->List (List Key×Addr×Value)->Prop:=Paired λ p q=>p.1=q.1/\H q.2.1=some (.tup (p.1.map kV))/\RelV p.2 q.2.2
theorem KT.val {H:Hp}{d:List (List Key×V)}{xs:List (List Key×Addr×Value)}(r:KT H d xs) (k:List Key):eu (bL d k) ((atKey xs k).map (·.2)):=by
 induction r with
 | nil=>exact True.intro
 | @cons p q ps j h t n=>
  obtain⟨h1,_,h2⟩:=h
  by_cases e:p.1=k
  ·have i:q.1=k:=h1.symm.trans e
   have b:atKey (q::j) k=some q.2:=by simp[atKey,Eb,i]
   rw[bZ e,b];exact h2
  ·have i:¬ q.1=k:=λ z=>e (h1.trans z)
   have b:atKey (q::j) k=atKey j k:=by simp[atKey,Eb,i]
   rw[bU e,b];exact n
theorem KT.vG (r:KT H kvs xs) (k) (n:RelV y u) :
  KT H (kvs.map λ d=>if d.1=k then (d.1,y) else d) (xs.map (putAt k u)):=by
 induction r with
 | nil=>exact .nil
 | @cons p q ps B h t j=>
  rw[Ce,Ce]
  refine .cons ?_ j
  obtain⟨h1,h2,i⟩:=h
  unfold putAt
  by_cases e:p.1=k
  ·rw[BN e,BN (h1.symm.trans e)];exact⟨h1,h2,n⟩
  ·rw[BI e,BI (λ z=>e (h1.trans z))];exact⟨h1,h2,i⟩
theorem KT.put (r:KT H kvs xs) (k) (i:H b=some (.tup (k.map kV))) (d:RelV y u) :
  KT H (putK kvs k y) (storedH xs k b u):=by
 have e:(kvs.any λ j=>decide (j.1=k))=(atKey xs k).isSome:=by
  rw[dI,(r.val k).gO,Option.isSome_map]
 unfold putK storedH
 rw[e]
 by_cases q:(atKey xs k).isSome=true
 ·rw[BN q,BN q];exact r.vG k d
 ·rw[BI q,BI q];exact Paired.snoc r ⟨rfl,i,d⟩
theorem KT.keeps (r:KT H kvs xs) (d:∀ b ys,H b=some (.tup ys)->H' b=some (.tup ys)):KT H' kvs xs:=
 Paired.vC r λ _ _ z=>⟨z.1,d _ _ z.2.1,z.2.2⟩
section
variable {P:Program}{w:World}{H:Hp}{h:Heap}{a:Addr}
theorem uV (d:HOk P w H h) (e:Rd H a u):bo P w H h a u:=e.ok d
theorem jL (d:HOk P w H h) (e:Rd H a (.dK kvs)):kvs.length<=sizeLine/\(a == sysModules)=false/\∃ vs,KV kvs vs/\h.DictOf (bO P w) a vs:=
 show bo P w H h a (.dK kvs) from uV d e
theorem yA (d:HOk P w H h) (e:H a=some (.dK kvs)):kvs.length<=sizeLine/\(a == sysModules)=false/\∃ vs,KV kvs vs/\h.DictOf (bO P w) a vs:=jL d (.inl e)
theorem fK (j:HOk P w H h) (e:H a=some (.tup (ks.map kV))):(tupleKind (bO P w)).is h ks a:=by
 obtain⟨_,d,r,o,h1,h2,n,i⟩:=(show bo P w H h a (.tup (ks.map kV)) from j a _ e)
 exact⟨o,d.toArray,n,h1,h2,i,by simpa using jB r⟩
theorem gW {kvs:List (List Key×V)}(ok:HOk P w H h) (e:Rd H a (.dT kvs)):kvs.length<=sizeLine/\(a == sysModules)=false /\
  ∃ xs,KT H kvs xs/\h.DictOfH (tupleKind (bO P w)) a xs:=by
 obtain⟨z,y,xs,r,o,es,ep,h1,h2,h3,h4,h5⟩:=(show bo P w H h a (.dT kvs) from uV ok e)
 refine⟨z,y,xs,r,o,es,ep,h1,h2,h3,h4,λ x hx=>?_,h5⟩
 have all:∀ {l:List (List Key×V)} {m:List (List Key×Addr×Value)},KT H l m->∀ x∈m,(tupleKind (bO P w)).is h x.1 x.2.1:=by
  intro l m q
  induction q with
  | nil=>intro x hx;exact nomatch hx
  | @cons p q ps qs hq t ih=>
   intro x hx
   rcases BF.mp hx with e|hx
   ·subst e
    exact fK ok (by rw[<- hq.1];exact hq.2.1)
   ·exact ih x hx
 exact all r x hx
theorem rM (d:HOk P w H h) (e:H a=some (.dT kvs)):kvs.length<=sizeLine/\(a == sysModules)=false /\
  ∃ xs,KT H kvs xs/\h.DictOfH (tupleKind (bO P w)) a xs:=gW d (.inl e)
end
noncomputable def j9 (H:Hp) (a:Addr) (y:V) (r:Option V):Prop:=
 (∃ kvs k,Rd H a (.dK kvs)/\y=kV k/\r=bL kvs k)\/∃ kvs k b,Rd H a (.dT kvs)/\y=.ref b/\H b=some (.tup (k.map kV))/\r=bL kvs k
noncomputable def uh (H:Hp) (a:Addr) (y v:V) (H':Hp):Prop:=
 (∃ kvs k,H a=some (.dK kvs)/\y=kV k/\kvs.length<sizeLine/\H'=upd H a (.dK (putK kvs k v))) \/
 ∃ kvs k b,H a=some (.dT kvs)/\y=.ref b/\H b=some (.tup (k.map kV))/\kvs.length<sizeLine/\H'=upd H a (.dT (putK kvs k v))
theorem j9.k {H:Hp}{a:Addr}{d:List (Key×V)}{k:Key}(e:H a=some (.dK d)):j9 H a (kV k) (bL d k):=.inl ⟨d,k,.inl e,rfl,rfl⟩
theorem uh.k {H:Hp}{a:Addr}{d:List (Key×V)}{k:Key}{v:V}(e:H a=some (.dK d)) (i:d.length<sizeLine):uh H a (kV k) v (upd H a (.dK (putK d k v))):=.inl ⟨d,k,e,rfl,i,rfl⟩
section
variable {X:Cx}{pins:List (Addr×Obj)}{σ:St}{H:Hp}{s:Shared}{a:Addr}{y v:V}{u r:Value}{o:Option V}{A:Around}{E:Value->Shared->Prop}
theorem Inv.big (I:Inv X pins σ H s):sysModules<s.heap.objs.size:=by
 have h:mainGlobals<s.heap.objs.size:=(I.mod.glob.keeps I.bk).lt
 exact E9 (by decide) h
theorem qd (N:A.units+1<cLine) (I:Inv X pins σ H s) (g:j9 H a y (some v)) (G:RelV y u) (h:∀ j s',Inv X pins σ H s'->RelV v j->Q j s') :
  wpAny (model X.prog X.w) A (getItem (.ref a) u) Q E s:=by
 rcases g with ⟨F,k,e,q,l⟩|⟨F,k,b,e,q,J,l⟩
 ·subst q
  obtain⟨z,L,O,d,n⟩:=jL I.hok e
  obtain⟨j,D,i⟩:=eu.some_of (v:=v) (o:=valueAt O k) (by rw[l];exact d.val k)
  exact wpAny_getItem_of (lD G) n.mapOf D (h j _ (I.tok _) i)
 ·subst q
  cases (show u=Value.ref b from G)
  obtain⟨z,L,xs,d,n⟩:=gW I.hok e
  obtain⟨j,D,i⟩:=eu.some_of (v:=v) (o:=(atKey xs k).map (·.2)) (by rw[l];exact d.val k)
  obtain⟨p,M,B⟩:=E8.mp D
  refine wpAny_getItem_heap (DQ N) (fK I.hok J) n M ?_
  rw[B]
  exact h j _ (I.tok _) i
theorem tu (G:A.units+1<cLine) (I:Inv X pins σ H s) (g:j9 H a y o) (D:RelV y u) (h:∀ s',Inv X pins σ H s'->Q (.bool (!o.isSome)) s') :
  wpAny (model X.prog X.w) A (compareOp .NotIn u (.ref a)) Q E s:=by
 rcases g with ⟨B,k,e,j,l⟩|⟨B,k,b,e,j,F,l⟩
 ·subst j
  obtain⟨z,n,J,d,i⟩:=jL I.hok e
  refine wpAny_notIn_of (lD D) n i.mapOf ?_
  rw[<- (d.val k).gO,<- l]
  exact h _ (I.tok _)
 ·subst j
  cases (show u=Value.ref b from D)
  obtain⟨z,n,xs,d,i⟩:=gW I.hok e
  refine wpAny_notIn_heap (DQ G) (fK I.hok F) n i ?_
  have q:=(d.val k).gO
  rw[Option.isSome_map] at q
  rw[<- q,<- l]
  exact h _ (I.tok _)
theorem kO (I:Inv X pins σ H s) (n:Mut (H a)) (hs:Heap.SameBut a s.heap h') (j:∃ q,h'.get? a=some q) (d:bo X.prog X.w (upd H a ob) h' a ob) :
  Inv X pins σ (upd H a ob) { s with heap:=h',toks:=t' }:=
 I.write (x:=a) (e:=a) n (.inl rfl) (λ b q i z=>(hs.2 b i).trans z) j d
theorem vP (z:kvs.length<=sizeLine) (i:(a == sysModules)=false) (d:KV kvs vs) (dd:h'.DictOf (bO P w) a vs) :
  bo P w H' h' a (.dK kvs):=⟨z,i,vs,d,dd⟩
theorem qm {H':Hp}{Q:Unit->Shared->Prop}(hu:A.units+1<cLine) (I:Inv X pins σ H s) (g:uh H a y v H') (S:RelV y u) (R:RelV v r) (h:∀ s',Inv X pins σ H' s'->Q () s') :
  wpAny (model X.prog X.w) A (setItem (.ref a) u r) Q E s:=by
 rcases g with ⟨d,k,e,F,l,D⟩|⟨d,k,b,e,F,N,l,D⟩
 ·subst F D
  obtain⟨z,G,vs,i,B⟩:=yA I.hok e
  have M:vs.length<=sizeLine:=by rw[<- i.length];exact z
  have J:(putK d k v).length<=sizeLine:=by have:=eK d k v;lia
  refine wpAny_setItem_pairs (hsz:=M) (lD S) B λ h' j L=>h _ ?_
  have Z:∃ q,h'.get? a=some q:=let ⟨q,_,_,n,_⟩:=j;⟨q,n⟩
  exact kO I (by rw[e];exact True.intro) L Z (vP J G (i.put k R) j)
 ·subst F D
  cases (show u=Value.ref b from S)
  obtain⟨z,G,xs,i,B⟩:=rM I.hok e
  have M:xs.length<=sizeLine:=by rw[<- Paired.length i];exact z
  have J:(putK d k v).length<=sizeLine:=by have:=eK d k v;lia
  refine wpAny_setItem_heap (hsz:=M) (DQ hu) (fK I.hok N) B λ h' j L=>h _ ?_
  obtain⟨q,es,U,n,h2,V,W,_,Y⟩:=j
  refine kO I (by rw[e];exact True.intro) L ⟨q,n⟩ ⟨J,G,_,(i.put k N R).keeps λ c ys O=>?_,q,es,U,n,h2,V,W,Y⟩
  rw[aE (dG O e (λ z=>nomatch z))]
  exact O
end
section
variable {X:Cx}{pins:List (Addr×Obj)}{σ:St}{H:Hp}{s:Shared}{a:Addr}{kvs:List (Key×V)}{k:Key}{u:Value}{A:Around}{E:Value->Shared->Prop}
end
noncomputable def xY (i:Expr):Prop:=∀ ov iv,subscripted i false ov iv=operate [ov,iv] (getItem ov iv)
theorem uu {prog:Program}{w:World}{A:Around}{E:Value->Shared->Prop}{s:Shared}{env:Env}{value d:Expr}{pos:Pos}{T id:String}{Q:Value->Shared->Prop}
  (I:typeLookup (.type T) "__getitem__" = pure (some (.builtin id))) (hs:xY d)
  (h:wpAny (model prog w) A (eval value env) (λ o q=>wpAny (model prog w) A (eval d env) (λ i j=>j.TypeIs o T/\wpAny (model prog w) A (getItem o i) Q E j) E q) E s) :
  wpAny (model prog w) A (eval (.Subscript value d pos) env) Q E s:=by
 refine Subscript_ (Cw h (λ o q D=>Cw D (λ i j n=>?_) λ _ _ x=>x) λ _ _ x=>x)
 obtain⟨G,n⟩:=n
 unfold subscriptTail
 refine Bx ?_
 rw[getitemInPython_of_ne G.not_modules]
 refine Bx (EA G I ?_)
 have B:wpAny (model prog w) A (subscripted d false o i) (λ r z=>wpAny (model prog w) A (letTemporaryGo value o r >>= λ _=>pure r) Q E z) E j:=by
  rw[hs o i]
  exact wpAny_operating (Cw n (λ r z F=>Bx (wpAny_letTemporaryGo (BA F))) λ _ _ x=>x)
 first
  | exact BA (Bx B)
  | exact Bx (BA (Bx B))
  | exact Bx B
theorem mv (I:Inv X pins σ H s) (g:j9 H a y o):s.TypeIs (.ref a) "dict":=by
 rcases g with ⟨kvs,k,e,_,_⟩|⟨kvs,k,b,e,_,_,_⟩
 ·obtain⟨_,_,i,_,d⟩:=jL I.hok e
  exact d.typeIs
 ·obtain⟨_,_,xs,_,d⟩:=gW I.hok e
  exact d.typeIs
noncomputable def A0 (td ty:TE):TE:=λ σ H Q=>td σ H λ x H1=>ty σ H1 λ y H2=>∃ a v,x=.ref a/\j9 H2 a y (some v)/\Q v H2
noncomputable def tm (ty td:TE):TE:=λ σ H Q=>ty σ H λ y H1=>td σ H1 λ x H2=>∃ a o,x=.ref a/\j9 H2 a y o/\Q (.bl (!o.isSome)) H2
noncomputable def xR (td ty tv:TE):TS:=λ D σ H=>tv σ H λ v H1=>td σ H1 λ x H2=>ty σ H2 λ y H3=>∃ a H4,x=.ref a/\uh H3 a y v H4/\D.nx σ H4
section
variable {X:Cx}{o i e value:Expr}{pos pos' tpos:Pos}{td ty tv:TE}
theorem df (B:X.A.units+1<cLine) (z:PE X o td) (hi:PE X i ty) (hs:xY i):PE X (.Subscript o i pos) (A0 td ty):=by
 intro pins s σ H Q I h
 refine uu PySem.F.slot_dict_getitem.lookup hs (thn (z pins s σ H _ I h) λ u L ⟨x,H1,n,G,D⟩=>thn (hi pins L σ H1 _ n D) λ M N ⟨y,H2,j,J,a,v,ex,g,F⟩=>?_)
 subst ex
 obtain rfl:u=Value.ref a:=G
 exact⟨mv j g,qd B j g J λ R O q d=>⟨v,H2,q,d,F⟩⟩
theorem dP (z:X.A.units+1<cLine) (hi:PE X i ty) (q:PE X o td):PC X .NotIn i o (tm ty td):=by
 intro pins s σ H Q I h
 refine thn (hi pins s σ H _ I h) λ M L ⟨y,H1,d,J,D⟩=>thn (q pins L σ H1 _ d D) λ u N ⟨x,H2,j,G,a,B,ex,g,F⟩=>?_
 subst ex
 obtain rfl:u=Value.ref a:=G
 exact tu z j g J λ O n=>⟨.bl (!B.isSome),H2,n,rfl,F⟩
theorem ij (F:X.A.units+1<cLine) (B:PE X o td) (hi:PE X i ty) (G:PE X value tv) (hs:swapsWith value (some (.Subscript o i pos')) pos.line X.env=pure false) :
  PS X (.Assign [.Subscript o i pos'] value pos) (xR td ty tv):=by
 intro pins s σ H D I h
 refine wpAny_Assign_Subscript (thn (G pins s σ H _ I h) λ r S ⟨v,H1,j,N,J⟩=>thn (B pins S σ H1 _ j J) λ u U ⟨x,H2,n,O,L⟩=>thn (hi pins U σ H2 _ n L) λ W Y ⟨y,V,q,R,a,d,ex,g,M⟩=>?_) hs
 subst ex
 obtain rfl:u=Value.ref a:=O
 exact qm F q g R N λ Z z=>⟨σ,d,z,M⟩
end
theorem qz (h:Heap) (d:sysModules<h.objs.size):bo P w H (h.push { cls:=.type "dict",data:=.dict #[] }) h.objs.size (.dK []):=
 ⟨Cf _,Ds.mpr (Ne.symm (BU d)),[],.nil,Heap.DictOf.new h⟩
theorem rS (h:Heap) (d:sysModules<h.objs.size):bo P w H (h.push { cls:=.type "dict",data:=.dict #[] }) h.objs.size (.dT []):=
 ⟨Cf _,Ds.mpr (Ne.symm (BU d)),[],.nil,_,#[],0,Heap.get?_push_size _ rfl,⟨rfl,rfl,rfl⟩,rfl,rfl,El⟩
noncomputable def wB:TE:=λ _ H Q=>∀ p,H p=none->Q (.ref p) (upd H p (.dK []))
noncomputable def wF:TE:=λ _ H Q=>∀ p,H p=none->Q (.ref p) (upd H p (.dT []))
section
variable {X:Cx}{pos:Pos}
theorem rH:PE X (.Dict [] [] pos) wB:=λ pins s σ H Q I h=>
 wpAny_Dict_empty ⟨.ref s.heap.objs.size,_,I.laid (a:=s.heap.objs.size) (o:=.dK []) (t':=s.toks) (λ _ _ q=>Heap.get?_push_of_some _ q) (Nat.le_refl _) (qz s.heap I.big),rfl,h _ (I.hok.fresh (Nat.le_refl _))⟩
theorem eH:PE X (.Dict [] [] pos) wF:=λ pins s σ H Q I h=>
 wpAny_Dict_empty ⟨.ref s.heap.objs.size,_,I.laid (a:=s.heap.objs.size) (o:=.dT []) (t':=s.toks) (λ _ _ q=>Heap.get?_push_of_some _ q) (Nat.le_refl _) (rS s.heap I.big),rfl,h _ (I.hok.fresh (Nat.le_refl _))⟩
end
structure M2 (X:Cx) (o:Expr) (m:Str) (apos:Pos) (e f:Expr) (cpos:Pos):Prop where
 base:attributeBase o m X.env (eval o X.env)=eval o X.env
 few:((backTo cpos (starEach [e,f] X.env)).all (λ x=>!x.1) && (backToKw cpos (keywordEach [] X.env)).all (λ x=>x.1.isSome)
  && decide (([e,f]:List Expr).length+([]:List Keyword).length+(if ([]:List Keyword).isEmpty then 0 else 1)<30))=true
 line:(apos.endLine == cpos.line)=true
 trees:backTo cpos (starEach [e,f] X.env)=[(false,eval e X.env),(false,eval f X.env)]
noncomputable def IsD (H:Hp) (a:Addr):Prop:=(∃ kvs,Rd H a (.dK kvs))\/∃ kvs,Rd H a (.dT kvs)
theorem wM (I:Inv X pins σ H s) (d:IsD H a) :
  s.TypeIs (.ref a) "dict" /\ (∀ b,Value.ref a=.ref b->∃ j,s.heap.get? b=some j/\j.dict=none)/\(a == sysModules)=false:=by
 rcases d with ⟨kvs,e⟩|⟨kvs,e⟩
 ·obtain⟨_,z,B,_,n⟩:=jL I.hok e
  refine⟨n.typeIs,λ b q=>?_,z⟩
  cases q
  obtain⟨j,_,_,h1,h2,_⟩:=n
  exact⟨j,h1,h2.2.1⟩
 ·obtain⟨_,z,xs,_,n⟩:=gW I.hok e
  refine⟨n.typeIs,λ b q=>?_,z⟩
  cases q
  obtain⟨j,_,_,h1,h2,_⟩:=n
  exact⟨j,h1,h2.2.1⟩
section
variable {X:Cx}{pins:List (Addr×Obj)}{σ:St}{H:Hp}{s:Shared}{a:Addr}{y d:V}{u r:Value}{o:Option V}{A:Around}{E:Value->Shared->Prop}
theorem wA (L:A.units+1<cLine) (I:Inv X pins σ H s) (g:j9 H a y o) (F:RelV y u) (D:RelV d r) (h:∀ G s',Inv X pins σ H s'->RelV (o.getD d) G->Q G s') :
  wpAny (model X.prog X.w) A (call (.builtin "dict.get") [.ref a,u,r]) Q E s:=by
 rcases g with ⟨kvs,k,e,q,l⟩|⟨kvs,k,b,e,q,J,l⟩
 ·subst q
  obtain⟨z,B,M,j,n⟩:=jL I.hok e
  refine FE Fh n.typeIs PySem.F.entry_dict_get (PySem.F.args_dict_get_3 _ _ _) (meets_dict_get_default (bO X.prog X.w) a (lD F) B r) ⟨_,n.mapOf,h _ _ (I.tok _) ?_⟩
  rw[l]
  exact(j.val k).getD D
 ·subst q
  cases (show u=Value.ref b from F)
  obtain⟨z,B,xs,j,n⟩:=gW I.hok e
  refine FE Fh n.typeIs PySem.F.entry_dict_get (PySem.F.args_dict_get_3 _ _ _) (meetsH_dict_get_default (tupleKind (bO X.prog X.w)) a b B r) ⟨DQ L,k,xs,fK I.hok J,n,h _ _ (I.tok _) ?_⟩
  rw[l]
  exact(j.val k).getD D
end
noncomputable def wI (td ty tx:TE):TE:=λ σ H Q=>td σ H λ x H1=>∃ a,x=.ref a/\IsD H1 a/\ty σ H1 λ y H2=>tx σ H2 λ z H3=>∃ o,j9 H3 a y o/\Q (o.getD z) H3
section
variable {X:Cx}{o e f:Expr}{apos cpos:Pos}{td ty tx:TE}
theorem qB (M:X.A.units+1<cLine) (L:PE X o td) (G:PE X e ty) (J:PE X f tx) (m:M2 X o "get" apos e f cpos):PE X (.Call (.Attribute o "get" apos) [e,f] [] cpos) (wI td ty tx):=by
 intro pins s σ H Q I h
 refine wpAny_Call_method m.base m.few m.line E2 Fh PySem.F.type_dict_get (thn (L pins s σ H _ I h) λ u W ⟨x,H1,n,S,a,ex,d,N⟩=>?_)
 subst ex
 obtain rfl:u=Value.ref a:=S
 obtain⟨Z,t2,_⟩:=wM n d
 refine⟨Z,t2,?_⟩
 rw[m.trees]
 refine Calls.callWith_builtin rfl (Calls.evalArgs_plain (Calls.spliced_cons (thn (G pins W σ H1 _ n N) λ iv Y ⟨y,H2,B,U,O⟩=>
  Calls.spliced_cons (thn (J pins Y σ H2 _ B O) λ fv s3 ⟨z,q,D,V,ov,g,R⟩=>Calls.spliced_nil ?_))))
 exact wA M D g U V λ w' s4 F j=>⟨_,q,F,j,R⟩
end
section
variable {X:Cx}{pins:List (Addr×Obj)}{σ:St}{H:Hp}{s:Shared}{a:Addr}{kvs:List (Key×V)}{A:Around}{E:Value->Shared->Prop}
end
section
variable {X:Cx}{pins:List (Addr×Obj)}{σ:St}{H:Hp}{s:Shared}{a:Addr}{y:V}{u:Value}{A:Around}{E:Value->Shared->Prop}
end
end L2
namespace Att
open PySem PySem.W PySem.Calls PyProof.Rows
theorem gZ:∀ (ns:List Int) (vs:List Value),WellAll P h vs (ns.map WData.int)->IntsAre vs ns:=by
 intro ns
 induction ns with
 | nil=>
  intro vs w
  rw[FH] at w
  cases w
  exact .nil
 | cons n ns j=>
  intro vs w
  rw[Ce] at w
  cases w with
  | cons a b=>
   cases a
   exact .cons _ _ (j _ b)
theorem pT {l:OpenLaw}{n:Nat}(N:l.most=some n) {P:Params}{h:Heap}{args:List WData}{z:List Value}
  (j:l.row.toRowW.claim.pre args=true) (J:WellAll P h z args) :
  ∃ a vs ns,z=[Value.ref a]/\args=[WData.list (ns.map WData.int)]/\h.get? a=some { cls:=.type "list",data:=.seq vs.toArray }/\IntsAre vs ns/\ns.length<=n:=by
 have I:WShape.hasAll [] args [.list .int]=true:=(pre_splitW j).1
 have L:l.pre.holds [] { args:=args }=true:=(pre_splitW j).2
 obtain⟨d,r,rfl,h1,h2⟩:=hasAllW_cons I
 obtain rfl:=hasAllW_nil h2
 obtain⟨xs,rfl,M⟩:=hasW_list h1
 obtain⟨ns,rfl⟩:=items_int M
 have D:ns.length<=n:=by
  unfold OpenLaw.pre at L
  have F:(WTm.not (.lt (.lit (.int (n:Int))) (.len (.arg 0)))).holds [] { args:=[.list (ns.map .int)] }=true:=by
   have F:=(holds_andW L).1
   rw[N] at F
   exact F
  have G:=condW_of F (w_not (w_lt w_lit (w_len_list (w_arg rfl))))
  rw[BB] at G
  refine Nat.le_of_not_lt λ q=>?_
  have R:(n:Int)<((ns.length:Nat):Int):=by lia
  first
   | (rw[Cu R] at G;exact absurd G (by decide))
   | (simp at G;lia)
 cases J with
 | cons S U=>
  cases U
  cases S with
  | list O B=>exact⟨_,_,ns,rfl,rfl,O,gZ ns _ B,D⟩
theorem ql (l:OpenLaw) (args):l.row.toRowW.claim.post args (.bool true) args=true:=
 postW_of (r:=l.row.toRowW) (X:=(true == true))
  (show WShape.has [] (.bool true) .bool=true by first|rfl|decide|simp[WShape.has,WShape.arms,WShape.armsAll])
  (show (WTm.eq .res (.lit (.bool true))).value [] { args:=args,res:=some (.bool true),after:=args }=some (.bool (true == true)) from w_eq_bool (w_res rfl) w_lit) rfl
theorem mn {l:OpenLaw}{n:Nat}{q:Program}{z:List Str}{XP:(Str->Option Value)->Heap->Prop}{YP:World->Heap->Prop}{d:DefRec}
  (hn:l.most=some n) (U:d.params.defaults=[])
  (I:∀ (w:World) (B j:Shared) (R Z:Str->Option Value) (J:Addr) (o:Obj) (pm O D:Value) (a:Addr) (vs:List Value) (ns:List Int),
   Ground q z [] XP w B R Z j.heap->YP w j.heap ->
   j.heap.get? J=some o->o.data=.func (docDef d.name d.params d.body d.scope pm O D)->j.heap.CodeRec O d.name->R d.name=some (.ref J) ->
   j.heap.get? a=some { cls:=.type "list",data:=.seq vs.toArray }->IntsAre vs ns->ns.length<=n->j.gens = #[] ->
   codeAny (model l.prog w) callerA (.call (.ref J) ⟨[.ref a],[]⟩) (λ r s'=>r=.ok (.ret (.bool true))/\OldK j.heap s'.heap/\s'.os=j.os/\AllBare s'.gens) j) :
  WalkO q z XP YP l.row.toRowW d [] (λ f vs=>PySem.call f vs):=by
 intro w B j R Z G Y J o pm O D dV kV ho hd S hD V hg a0 a2 as N a1 a4 W a3
 obtain rfl:dV=.none:=Dflts.none hD U
 obtain rfl:kV=.none:=Dflts.noKw hD
 obtain⟨a,vs,ns,rfl,rfl,M,F,L⟩:=pT hn N W
 refine enter_call (EF (I w B j R Z J o pm O D a vs ns G Y ho (fd_plain hd) S V M F L hg) λ r s' hq=>?_)
 obtain⟨rfl,h2,h3,h4⟩:=hq
 exact⟨.inl ⟨.bool true,.bool true,[],rfl,λ _=>rfl,.bool true,ql l _,λ _=>⟨List.Pairwise.nil,λ _ hm=>(nomatch hm)⟩⟩,h2,h3,h4⟩
section
variable {prog:Program}{w:World}{A:Around}{E:Value->Shared->Prop}{s:Shared}{K:Frag}
noncomputable def ledger (h:Heap) (L d:Addr):List (Addr×Obj):=(List.range h.objs.size).filterMap λ a=>if a=L\/a=d then none else (h.get? a).map λ o=>(a,o)
end
end Att
namespace L2
open PySem PySem.Spec PyProof.Rows
theorem jD:∀ {vs:List Value}{ns:List Int},IntsAre vs ns->Vals (ns.map V.int) vs
 | _,_,.nil=>.nil
 | _,_,.cons n t h=>.cons ⟨t,rfl⟩ (jD h)
noncomputable def inClass (s:Stmt) (j:Nat):Stmt:=match s with
 | .ClassDef _ _ _ body _ _ _ _ _ _ _=>body.getD j (.Pass ⟨0,0,0,0⟩)
 | _=>.Pass ⟨0,0,0,0⟩
noncomputable def kE (s:Stmt):Arguments:=match s with
 | .FunctionDef _ a _ _ _ _ _ _ _ _=>a
 | _=>{ posonlyargs:=[],args:=[],vararg:=none,kwonlyargs:=[],kw_defaults:=[],kwarg:=none,defaults:=[] }
noncomputable def dW (s:Stmt):List Stmt:=match s with
 | .FunctionDef _ _ b _ _ _ _ _ _ _=>b
 | _=>[]
noncomputable def aM (s:Stmt):Scope:=match s with
 | .FunctionDef _ _ _ _ _ _ sc _ _ _=>sc
 | _=>{ kind:=.function,names:=[],isGenerator:=false,isCoroutine:=false }
structure Fun (K:PySem.W.Frag) (x qual:Str) (st:Stmt) (f:Addr) (fd:FuncData):Prop where
 ex:∃ (oc:Value) (od:Option Addr) (kV doc pm:Value) (an:Option Addr) (cdv ct:Value) (osl:Array (Option Value)),
  fd=PySem.W.fnOf x qual (kE st) (dW st) (aM st) .none kV doc pm an cdv ct/\K.lookup f=some ⟨oc,od,.func fd,osl⟩/\PySem.W.codeIn K cdv qual=true
 kp:PySem.W.keepIn K (.ref f)=true
section
variable {P:Program}{w:World}{K:PySem.W.Frag}{mg:Str->Option Value}{base:Heap}
theorem vU {x qual:Str}{st:Stmt}{f:Addr}{G:Value}{od z:Option Addr}{q:Array (Option Value)}{D n F j B:Value}(l:K.lookup f=some ⟨G,od,.func (PySem.W.fnOf x qual (kE st) (dW st) (aM st) .none D n F z j B),q⟩)
  (c:PySem.W.codeIn K j qual=true) (k:PySem.W.keepIn K (.ref f)=true):Fun K x qual st f (PySem.W.fnOf x qual (kE st) (dW st) (aM st) .none D n F z j B):=⟨⟨G,od,D,n,F,z,j,B,q,rfl,l,c⟩,k⟩
end
theorem cy (j:cB k A):A.units+1<cLine:=CQ (Nat.add_le_add_left (by decide:1<=64) _) j.units
theorem bg (h:n<=1000):n<sizeLine:=CQ h (by decide)
section
variable {X:Cx}
theorem pv (i) (n:X.N[i]? = some x:=by rfl) (z:Vis X.env.scope x:=by first|exact Or.inl rfl|exact Or.inr (Or.inl rfl)|exact Or.inr (Or.inr rfl)) (q:(x == ("__debug__" : Str))=false:=by decide)
  (j:(x == ("__classdict__" : Str))=false:=by decide):PE X (.Name x pos) (cN i):=vX n z q j
end
theorem gy {A B:Prop}(h:B):if false=true then A else B:=by
 rw[BI B4]
 exact h
theorem dF {A B:Prop}(h:A):if true=true then A else B:=by
 rw[BN rfl]
 exact h
theorem eC {c A B:Prop} [Decidable c] (h1:c->A) (h2:¬ c->B):if c then A else B:=by
 by_cases h:c
 ·rw[BN h]
  exact h1 h
 ·rw[BI h]
  exact h2 h
noncomputable def aL (H H':Hp):Prop:=∀ b o,H b=some o->H' b=some o
theorem aL.refl (H:Hp):aL H H:=λ _ _ h=>h
theorem aL.trans (a:aL H H1) (b:aL H1 H2):aL H H2:=λ c o h=>b c o (a c o h)
theorem aL.free (e:aL H H') (h:H' l=Option.none):H l=Option.none:=by
 cases q:H l with
 | none=>rfl
 | some o=>
  rw[e l o q] at h
  cases h
theorem aL.seq {K:PySem.W.Frag}{H H':Hp}{a:Addr}{xs:List V}(e:aL H H') (h:SqL K H a xs):SqL K H' a xs:=by
 rcases h with (h|⟨o,h⟩)|h
 ·exact .inl (.inl (e _ _ h))
 ·exact .inl (.inr ⟨o,e _ _ h⟩)
 ·exact .inr h
section
variable {X:Cx}
end
section
variable {κ:Type} [DecidableEq κ]
theorem rJ {kvs:List (κ×V)}{k:κ}(h:bL kvs k=none):¬ k∈kvs.map (·.1):=by
 intro m
 obtain⟨p,j,e⟩:=BV.mp m
 have q:(kvs.any λ n=>decide (n.1=k))=true:=List.any_eq_true.mpr ⟨p,j,Cu e⟩
 rw[dI,h] at q
 exact absurd q (by simp)
end
theorem eg {sc:Scope}{env:Env}(h:∀ y∈sc.names,y.2=.free->∃ c,env.cells.lookup y.1=some c) :
  ∃ cl,closureFor sc env=pure cl/\(∀ x c,cl.lookup x=some c->env.cells.lookup x=some c)/\∀ y∈sc.names,y.2=.free->∃ c,cl.lookup y.1=some c:=by
 have go:∀ (names:List (Str×NameKind)) (cs:List (Str×Addr)),(∀ y∈names,y.2=.free->∃ c,env.cells.lookup y.1=some c)->(∀ x c,cs.lookup x=some c->env.cells.lookup x=some c) ->
   ∃ cl,(forIn names cs λ(x:Str×NameKind) (r:List (Str×Addr))=>(if (x.2 == NameKind.free)=true then do let c <- cellOf env x.1;pure (ForInStep.yield ((x.1,c)::r)) else pure (ForInStep.yield r):Sem (ForInStep (List (Str×Addr)))))=pure cl /\
    (∀ x c,cl.lookup x=some c->env.cells.lookup x=some c)/\(∀ y∈names,y.2=.free->∃ c,cl.lookup y.1=some c)/\∀ x c,cs.lookup x=some c->∃ c',cl.lookup x=some c':=by
  intro names
  induction names with
  | nil=>intro cs _ hcs;exact⟨cs,rfl,hcs,λ y hy=>by simp at hy,λ x c e=>⟨c,e⟩⟩
  | cons y r ih=>
   intro cs hn hcs
   by_cases hy:y.2=.free
   ·obtain⟨c,hc⟩:=hn y BR hy
    obtain⟨cl,e,h1,h2,h3⟩:=ih ((y.1,c)::cs) (λ z hz=>hn z (BQ _ hz)) (λ x c' e=>by
     rw[Dl] at e
     by_cases hx:x=y.1
     ·subst hx;simp at e;subst e;exact hc
     ·have:(x == y.1)=false:=by simpa using hx
      rw[this] at e;exact hcs x c' e)
    refine⟨cl,?_,h1,λ z hz hf=>?_,λ x c' e'=>?_⟩
    ·rw[Ea]
     have e1:(y.2 == NameKind.free)=true:=by rw[hy];rfl
     have e2:cellOf env y.1=pure c:=by unfold cellOf;rw[hc]
     rw[e1,e2]
     exact e
    ·rcases BF.mp hz with rfl|hz
     ·exact h3 z.1 c (by simp)
     ·exact h2 z hz hf
    ·by_cases hx:x=y.1
     ·subst hx;exact h3 y.1 c (by simp)
     ·have:(x == y.1)=false:=by simpa using hx
      exact h3 x c' (by rw[Dl,this];exact e')
   ·obtain⟨cl,e,h1,h2,h3⟩:=ih cs (λ z hz=>hn z (BQ _ hz)) hcs
    refine⟨cl,?_,h1,λ z hz hf=>?_,h3⟩
    ·rw[Ea]
     have e1:(y.2 == NameKind.free)=false:=by simpa using hy
     rw[e1]
     exact e
    ·rcases BF.mp hz with rfl|hz
     ·exact absurd hf hy
     ·exact h2 z hz hf
 obtain⟨cl,e,h1,h2,_⟩:=go sc.names [] h (λ x c e=>by simp at e)
 refine⟨cl,?_,h1,h2⟩
 have e2:closureFor sc env=((forIn sc.names [] λ(x:Str×NameKind) (r:List (Str×Addr))=>(if (x.2 == NameKind.free)=true then do let c <- cellOf env x.1;pure (ForInStep.yield ((x.1,c)::r)) else pure (ForInStep.yield r):Sem (ForInStep (List (Str×Addr))))) >>= λ s=>pure s):=rfl
 rw[e2,e]
 rfl
theorem du:(relabel sc env).names.lookup x =
  (sc.names.lookup x).map λ k=>if (k == NameKind.free && env.scope.kind == .function && env.kindOf x == some .cell)=true then NameKind.cell else k:=by
 have F:∀ j:List (Str×NameKind),(j.map λ(n,k)=>if (k == NameKind.free && env.scope.kind == .function && env.kindOf n == some .cell)=true then (n,NameKind.cell) else (n,k)).lookup x =
   (j.lookup x).map λ k=>if (k == NameKind.free && env.scope.kind == .function && env.kindOf x == some .cell)=true then NameKind.cell else k:=by
  intro j
  induction j with
  | nil=>rfl
  | cons y r D=>
   obtain⟨n,k⟩:=y
   rw[Ce,Dl]
   show List.lookup x ((if (k == NameKind.free && env.scope.kind == .function && env.kindOf n == some .cell)=true then (n,NameKind.cell) else (n,k))::_)=_
   by_cases B:x=n
   ·subst B
    by_cases q:(k == NameKind.free && env.scope.kind == .function && env.kindOf x == some .cell)=true
    ·rw[BN q];simp only[Dl,E1,Df];rw[BN q]
    ·rw[BI q];simp only[Dl,E1,Df];rw[BI q]
   ·have z:(x == n)=false:=by simpa using B
    by_cases q:(k == NameKind.free && env.scope.kind == .function && env.kindOf n == some .cell)=true
    ·rw[BN q];simp only[Dl,z];exact D
    ·rw[BI q];simp only[Dl,z];exact D
 exact F sc.names
structure gM (N:List Str) (esc sc:Scope) (N':List Str) (k:Nat):Prop where
 kind:sc.kind=.function
 nocell:∀ y∈sc.names,y.2≠.cell
 names:∀ y∈sc.names,y.2=.local->sc.names.lookup y.1=some .local
 free:∀ y∈sc.names,y.2=.free->esc.names.lookup y.1=some .cell\/esc.names.lookup y.1=some .free
 len:N'.length=N.length+k
 old:∀ (i:Nat) (x:Str),i<N.length->N'[i]? = some x->Vis sc x->N[i]? = some x/\sc.names.lookup x=some .free
noncomputable def hR (N:List Str) (esc sc:Scope) (N':List Str) (k:Nat):Bool:=
 (sc.kind == .function) && (sc.names.all λ y=>y.2 != .cell) && (sc.names.all λ y=>y.2 != .local || sc.names.lookup y.1 == some .local) &&
 (sc.names.all λ y=>y.2 != .free || (esc.names.lookup y.1 == some .cell || esc.names.lookup y.1 == some .free)) && (N'.length == N.length+k) &&
 ((N'.zip N).all λ p=>match sc.names.lookup p.1 with
  | some .local=>false
  | some .cell=>false
  | some .free=>p.1 == p.2
  | _=>true)
theorem gM.of (h:hR N esc sc N' k=true):gM N esc sc N' k:=by
 unfold hR at h
 simp only[CG,Dy,Dc,FQ,bne_iff_ne,ne_eq] at h
 obtain⟨⟨⟨⟨⟨h1,h2⟩,n⟩,B⟩,D⟩,F⟩:=h
 refine⟨h1,λ y j=>h2 y j,λ y j e=>?_,λ y j e=>?_,D,λ i x hi L J=>?_⟩
 ·rcases n y j with z|z
  ·exact absurd e z
  ·exact z
 ·rcases B y j with z|z
  ·exact absurd e z
  ·exact z
 ·have G:i<(N'.zip N).length:=by rw[List.length_zip];lia
  have I:(x,N[i])∈N'.zip N:=by
   rw[Es]
   refine⟨i,?_⟩
   rw[List.getElem?_zip_eq_some]
   exact⟨L,by simp[hi]⟩
  have q:=F _ I
  rcases J with z|z|z
  ·rw[z] at q;exact absurd q (by simp)
  ·rw[z] at q;exact absurd q (by simp)
  ·rw[z] at q
   have M:x=N[i]:=by simpa using q
   refine⟨?_,z⟩
   rw[Bz hi,<- M]
noncomputable def cD (X:Cx) (sc:Scope) (N':List Str) (cl:List (Str×Addr)) (C:Addr) (s₂:Shared) (H2:Hp) (fp:List Addr):Cx:=
 { X with N:=N',s₀:=s₂,H₀:=H2,env:=compEnvC sc cl C X.env,outer:=X.stack,ex:=fp,fn:=λ _=>false,pn:=[],xe:=λ _ _=>False }
section
variable {X:Cx}{pins:List (Addr×Obj)}{σ:St}{H:Hp}{s₂:Shared}{sc:Scope}{N':List Str}{k:Nat}{cl:List (Str×Addr)}{C acc:Addr}{fp:List Addr}{h₁:Heap}{tk n:Nat}
theorem gQ (h:Vis (relabel sc X.env) x):Vis sc x:=by
 unfold Vis at h ⊢
 rw[du] at h
 cases e:sc.names.lookup x with
 | none=>rw[e] at h;simp at h
 | some k=>
  rw[e] at h
  simp only[Df,Option.some.injEq] at h ⊢
  split at h
  ·rename_i j
   simp only[CG,Dc] at j
   exact .inr (.inr j.1.1)
  ·exact h
theorem qT (ok:gM X.N X.env.scope sc N' k) (hcl:∀ x c,cl.lookup x=some c->X.env.cells.lookup x=some c) (hfr:∀ y∈sc.names,y.2=.free->∃ c,cl.lookup y.1=some c)
  (I:Inv X pins σ H s₂) (hfp:∀ b∈fp,iG X pins H b) (hob:∀ b∈fp,∃ o,s₂.heap.get? b=some o)
  (hacc:s₂.heap.objs.size<=acc) (hC:s₂.heap.objs.size<=C) (hne:C≠acc) (ns:h₁.Ns C λ _=>none) (kp:∀ b o,s₂.heap.get? b=some o->h₁.get? b=some o)
  (ha:h₁.get? acc=some { cls:=.type "list",data:=.seq #[] n }) :
  Inv (cD X sc N' cl C s₂ H fp) [] (σ++List.replicate k none) (upd H acc (.lst [])) { s₂ with heap:=h₁,toks:=tk }:=by
 have hfresh:=I.hok.fresh hacc
 have hfreshC:=I.hok.fresh hC
 have hlook:∀ x,((cD X sc N' cl C s₂ H fp).env.kindOf x=some .cell\/(cD X sc N' cl C s₂ H fp).env.kindOf x=some .free)->sc.names.lookup x=some .free:=λ x hx=>by
  have hx':(relabel sc X.env).names.lookup x=some .cell\/(relabel sc X.env).names.lookup x=some .free:=hx
  have hv:Vis sc x:=gQ (X:=X) (.inr hx')
  rcases hv with z|z|z
  ·rw[du,z] at hx';simp at hx'
  ·exact absurd rfl (ok.nocell _ (CA z))
  ·exact z
 have hexf:∀ b∈fp,b<s₂.heap.objs.size:=λ b hb=>let ⟨o,e⟩:=hob b hb;Heap.lt_size e
 refine⟨⟨I.ok.mod,ok.kind,I.ok.glob,I.ok.blt,hC,λ x y c h1 h2=>I.ok.inj x y c (hcl x c h1) (hcl y c h2),λ x hx=>hfr _ (CA (hlook x hx)) rfl,λ x c h _=>absurd (show false=true from h) (by simp),
   I.ok.hd,I.ok.frames,.inl rfl,λ b hb=>⟨BU (BW (hexf b hb) hC),λ x c e=>(hfp b hb).2.2.2.2.1 x c (hcl x c e)⟩,I.bs,B6 I.ok.bsz I.sz,λ b o e hb=>?_,λ b hb z=>?_,I.stack,I.ic⟩,
  rfl,I.bare,Un.laid kp hacc hfresh,⟨_,ns,λ i x v e1 e2 e3=>?_⟩,λ x c e=>?_,?_,λ x c e=>?_,λ p hp=>absurd (show p∈([]:List (Addr×Obj)) from hp) (by simp),I.hok.laid kp hacc ⟨Cf _,[],n,.nil,ha⟩,?_⟩
 ·rcases (hfp b hb).2.2.2.1 with z|z
  ·exact I.ok.noex b o e z
  ·exact absurd (BW (Heap.lt_size e) (B6 I.ok.bsz z)) (C8 _)
 ·rcases BF.mp (I.iD b z) with q|q
  ·exact(hfp b hb).2.1 q
  ·exact(hfp b hb).2.2.1 q
 ·have hi:i<σ.length:=by
   by_cases hi:i<σ.length
   ·exact hi
   ·rw[B5 (by lia),Eh] at e2
    split at e2<;>cases e2
  rw[Cn hi] at e2
  have hiN:i<X.N.length:=by rw[<- I.len];exact hi
  obtain⟨q1,q2⟩:=ok.old i x hiN e1 (gQ (X:=X) e3)
  have hk:=ok.free _ (CA q2) rfl
  obtain⟨m,hn,hl⟩:=I.loc
  obtain⟨u,ru,look⟩:=hl i x v q1 e2 (.inr hk)
  refine⟨u,ru,.inr ⟨?_,?_⟩⟩
  ·show (relabel sc X.env).names.lookup x=some .cell\/(relabel sc X.env).names.lookup x=some .free
   rw[du,q2]
   simp only[Df,Option.some.injEq]
   split
   ·exact .inl rfl
   ·exact .inr rfl
  ·obtain⟨c,hc⟩:=hfr _ (CA q2) rfl
   rcases look with ⟨z,_⟩|⟨_,c',e',z⟩
   ·rcases hk with hk|hk
    ·have z':X.env.scope.names.lookup x=some .local:=z
     rw[hk] at z';cases z'
    ·have z':X.env.scope.names.lookup x=some .local:=z
     rw[hk] at z';cases z'
   ·have e'':=hcl x c hc
    rw[e'] at e'';cases e''
    obtain⟨o,ho,hd⟩:=z
    exact⟨_,hc,o,kp _ _ ho,hd⟩
 ·obtain⟨v,o,ho,hd⟩:=I.cell x c (hcl x c e)
  exact⟨v,o,kp _ _ ho,hd⟩
 ·show upd H acc (.lst []) C=none
  rw[aE hne];exact hfreshC
 ·have hc:=hcl x c e
  obtain⟨v,z⟩:=I.cell x c hc
  have hlt:c<s₂.heap.objs.size:=z.lt
  show upd H acc (.lst []) c=none\/(false=false/\∃ o u,upd H acc (.lst []) c=some (.frz o u))
  rw[aE (BU (BW hlt hacc))]
  exact(I.freeC x c hc).imp id λ z=>⟨rfl,z.2⟩
 ·show (σ++List.replicate k none).length=N'.length
  rw[BL,CK,I.len,ok.len]
end
noncomputable def PTs (X:Cx) (ifs:List Expr) (t:TT):Prop:=(ifs=[]/\∀ σ H Q,t σ H Q->Q true H)\/∃ c,ifs=[c]/\PT X c t
noncomputable def gY:TT:=λ _ H Q=>Q true H
theorem cP:PTs X [] gY:=.inl ⟨rfl,λ _ _ _ h=>h⟩
theorem kj (h:PT X c t):PTs X [c] t:=.inr ⟨c,rfl,h⟩
noncomputable abbrev gS (J:It) (k:Nat) (g:TG) (tc:TT) (te:TE) (σ:St) (H1:Hp) (Q:VK):Prop:=
 ∀ acc,H1 acc=none->∃ W:Nat->Nat->St->List V->Hp->Prop,(∃ m,W 0 m (σ++List.replicate k none) [] (upd H1 acc (.lst []))) /\
  ∀ i m σ2 ys H2,W i m σ2 ys H2 ->
   (J.stop i H2/\Q (.ref acc) H2) \/
   (J.go i H2/\ys.length<sizeLine/\∀ x H3,J.yld i H2 x H3->g x σ2 H3 λ σ4 H4=>tc σ4 H4 λ b H5=>
    if b=true then te σ4 H5 λ v H6=>H6 acc=some (.lst ys)/\∃ m',m'<m/\W (i+1) m' σ4 (ys++[v]) (upd H6 acc (.lst (ys++[v])))
    else ∃ m',m'<m/\W (i+1) m' σ4 ys H5)
noncomputable def vj (wi:TI) (k:Nat) (g:TG) (tc:TT) (te:TE):TE:=λ σ H Q=>wi σ H λ J H1=>gS J k g tc te σ H1 Q
section
variable {X:Cx}{elt tg iter:Expr}{ifs:List Expr}{sc:Scope}{pos:Pos}{N':List Str}{k:Nat}{wi:TI}{g:TG}{tc:TT}{te:TE}{cl:List (Str×Addr)}
set_option maxHeartbeats 800000 in
theorem i8 (hc:X.calm=true) (ok:gM X.N X.env.scope sc N' k) (aq:∀ x c,cl.lookup x=some c->X.env.cells.lookup x=some c) (aB:∀ y∈sc.names,y.2=.free->∃ c,cl.lookup y.1=some c)
  (F:∀ cl C s₂ H2 fp,PG (cD X sc N' cl C s₂ H2 fp) tg g/\PTs (cD X sc N' cl C s₂ H2 fp) ifs tc/\PE (cD X sc N' cl C s₂ H2 fp) elt te)
  {pins:List (Addr×Obj)}{σ:St}{H:Hp}{s₂:Shared}{J:It}{fp:List Addr}{it:Addr}{tn:Nat->Heap->Prop}(I:Inv X pins σ H s₂) (T:Turn X.prog X.w X.K tg J fp it tn) (t0:tn 0 s₂.heap) (Y:∀ b∈fp,iG X pins H b)
  {Q:VK}(h:gS J k g tc te σ H Q) {RR:Value->Addr->Result->Shared->Prop}
  (aA:∀ acc C H' s' G,Inv X pins σ H' s'->s'.heap.Ns C G->s₂.heap.objs.size<=C->H' C=none->Q (.ref acc) H'->RR (.ref acc) C (.ok .next) s') :
  wpAny (model X.prog X.w) X.A (newList []) (λ acc au=>wpAny (model X.prog X.w) X.A (newFunctionEnv sc X.env.globals cl [] X.env.qual none .none (some X.env)) (λ ab av=>
   codeAny (model X.prog X.w) X.A (.compStart (.ListComp elt [⟨tg,iter,ifs,0⟩] sc pos) 0 (.ref it) acc { ab with scope:=relabel sc X.env }) (RR acc ab.locals) av) X.xe au) X.xe s₂:=by
 refine Dp (wpAny_newFunctionEnv ok.nocell (by intro y hy;simp at hy) (λ h₁ Z D=>?_) ok.kind)
 dsimp only at Z D ⊢
 generalize ai:s₂.heap.push { cls:=.type "list",dict:=none,data:=.seq ([]:List Value).toArray }=L at Z D ⊢
 have hC:L.objs.size=s₂.heap.objs.size+1:=by rw[<- ai,Heap.size_push]
 have ao:s₂.heap.objs.size≠L.objs.size:=by rw[hC];exact BU (D4 _)
 have a6:s₂.heap.objs.size<=L.objs.size:=by rw[hC];exact D1 _
 have al:∀ b o,s₂.heap.get? b=some o->h₁.get? b=some o:=λ b o e=>D.extBut b o (BU (BW (Heap.lt_size e) a6)) (Heap.get?_push_of_some _ (ai ▸ Heap.get?_push_of_some _ e))
 have ap:h₁.get? s₂.heap.objs.size=some { cls:=.type "list",data:=.seq #[] 0 }:=D.extBut _ _ ao (Heap.get?_push_of_some _ (ai ▸ Heap.get?_push_size _ rfl))
 have aj:∀ b∈fp,∃ o,s₂.heap.get? b=some o:=λ b F=>let ⟨o,e,_⟩:=T.obj 0 _ t0 b F;⟨o,e⟩
 obtain⟨W,⟨m0,w0⟩,af⟩:=h s₂.heap.objs.size I.fresh
 obtain⟨hg,ht,he⟩:=F cl L.objs.size s₂ H fp
 have J0:Inv (cD X sc N' cl L.objs.size s₂ H fp) [] (σ++List.replicate k none) (upd H s₂.heap.objs.size (.lst [])) { s₂ with heap:=h₁,toks:=s₂.toks+([]:List (Str×Value)).length }:=
  qT ok aq aB I Y aj (Nat.le_refl _) a6 (Ne.symm ao) Z al ap
 have ah:∀ {a4:List (Addr×Obj)} {H':Hp},a4=[]->(∀ b∈fp,H' b=none)->∀ b∈fp,iG (cD X sc N' cl L.objs.size s₂ H fp) a4 H' b:=λ{a4 H'} hp hn b F=>by
  subst hp
  refine⟨hn b F,?_,?_,.inl F,λ x c e=>(Y b F).2.2.2.2.1 x c (aq x c e),λ p hp=>absurd (show p∈([]:List (Addr×Obj)) from hp) (by simp)⟩
  ·obtain⟨o,e⟩:=aj b F
   exact BU (BW (Heap.lt_size e) a6)
  ·intro z
   rcases BF.mp (I.iD b z) with q|q
   ·exact(Y b F).2.1 q
   ·exact(Y b F).2.2.1 q
 let S:=cD X sc N' cl L.objs.size s₂ H fp
 let N:Nat->Shared->Prop:=λ n s'=>∃ i aw ys H',Inv S [] aw H' s'/\tn i s'.heap/\(∀ b∈fp,H' b=none)/\W i n aw ys H'
 have a7:∀ {E':Value->Shared->Prop} (x:Value) (s':Shared),False->E' x s':=λ _ _ z=>z.elim
 have ag:∀ {i n:Nat} {B:St} {ys:List V} {O:Hp} {s3:Shared} {R:Shared->Prop} {E':Value->Shared->Prop},Inv S [] B O s3->tn i s3.heap->(∀ b∈fp,O b=none)->J.go i O ->
   (∀ x an,J.yld i O x an->g x B an λ aa H4=>tc aa H4 λ b H5=>if b=true then te aa H5 λ v H6=>H6 s₂.heap.objs.size=some (.lst ys)/\∃ G,G<n/\W (i+1) G aa (ys++[v]) (upd H6 s₂.heap.objs.size (.lst (ys++[v]))) else ∃ G,G<n/\W (i+1) G aa ys H5) ->
   (∀ (pl:List (Addr×Obj)) (j:St) (H6:Hp) (s6:Shared),Inv S pl j H6 s6->(∀ {a9:St} {H7:Hp} {s7:Shared},Inv S pl a9 H7 s7->Inv S [] a9 H7 s7/\tn (i+1) s7.heap/\∀ b∈fp,H7 b=none) ->
    (tc j H6 λ b H5=>if b=true then te j H5 λ v H6=>H6 s₂.heap.objs.size=some (.lst ys)/\∃ G,G<n/\W (i+1) G j (ys++[v]) (upd H6 s₂.heap.objs.size (.lst (ys++[v]))) else ∃ G,G<n/\W (i+1) G j ys H5)->R s6) ->
   wpAny (model X.prog X.w) X.A (pyNext (.ref it)) (λ r s4=>∃ u,r=some u/\wpAny (model X.prog X.w) X.A (letOwnedTupleGo tg (.ref it) u) (λ _ s5=>wpAny (model X.prog X.w) X.A (assign tg S.env u) (λ _ s6=>R s6) E' s5) E' s4) E' s3:=by
  intro i n B ys O s3 R E' I3 a0 U go a2 ay
  refine Cw (T.item S rfl rfl rfl hc i [] s3 B O E' I3 (ah rfl U) a0 go) (λ r s4 hr=>?_) λ _ _ z=>z
  obtain⟨u,hr,h4⟩:=hr
  refine⟨u,hr,Cw h4 (λ _ s5 h5=>?_) λ _ _ z=>z⟩
  obtain⟨x,H5,I5,r5,y5,am,az⟩:=h5
  have ax:=I5.pinned (ah rfl az) (T.obj _ _ am)
  refine Cw (hg _ s5 B H5 x u _ ax r5 (a2 x H5 y5)) (λ _ s6 h6=>?_) a7
  obtain⟨j,H6,I6,q6⟩:=h6
  refine ay _ j H6 s6 I6 (λ{a9 H7 s7} I7=>?_) q6
  refine⟨I7.gm,T.keep _ _ _ am λ b F o e=>(I7.pin (b,o) (BG _ (BG _ (et F e)))).1,λ b F=>?_⟩
  obtain⟨o,e,d⟩:=T.obj _ _ am b F
  exact(I7.pin (b,o) (BG _ (BG _ (et F e)))).2.1
 have ar:∀ {i n:Nat} {pl:List (Addr×Obj)} {j:St} {ys:List V} {H7:Hp} {s7:Shared} {E':Value->Shared->Prop},ys.length<sizeLine->Inv S pl j H7 s7 ->
   (∀ {a9:St} {H7:Hp} {s7:Shared},Inv S pl a9 H7 s7->Inv S [] a9 H7 s7/\tn (i+1) s7.heap/\∀ b∈fp,H7 b=none) ->
   (te j H7 λ v H6=>H6 s₂.heap.objs.size=some (.lst ys)/\∃ G,G<n/\W (i+1) G j (ys++[v]) (upd H6 s₂.heap.objs.size (.lst (ys++[v])))) ->
   wpAny (model X.prog X.w) X.A (eval elt S.env) (λ x s8=>wpAny (model X.prog X.w) X.A (call (.builtin "list.append") [.ref s₂.heap.objs.size,x]) (λ _ s9=>∃ m,m<n/\N m s9) E' s8) E' s7:=by
  intro i n pl j ys H7 s7 E' a1 I7 M q7
  refine Cw (he _ s7 j H7 _ I7 q7) (λ y s8 h8=>?_) a7
  obtain⟨v,H8,I8,r8,a8,G,hm,w8⟩:=h8
  refine Cw (bM (X:=S) _ s8 j H8 (.ref s₂.heap.objs.size) [v] _ _ (λ _ H9=>H9=upd H8 s₂.heap.objs.size (.lst (ys++[v]))) I8 rfl (.cons r8 .nil) ⟨_,ys,v,rfl,rfl,a8,a1,rfl⟩) (λ _ s9 h9=>?_) a7
  obtain⟨_,H9,I9,_,rfl⟩:=h9
  obtain⟨b1,b2,b3⟩:=M I9
  exact⟨G,hm,i+1,j,ys++[v],_,b1,b2,b3,w8⟩
 have ae:∀ {i:Nat} {B:St} {O:Hp} {s3:Shared} {E':Value->Shared->Prop},Inv S [] B O s3->tn i s3.heap->(∀ b∈fp,O b=none)->J.stop i O->Q (.ref s₂.heap.objs.size) O ->
   wpAny (model X.prog X.w) X.A (pyNext (.ref it)) (λ r s4=>r=none/\RR (.ref s₂.heap.objs.size) L.objs.size (.ok .next) s4) E' s3:=by
  intro i B O s3 E' I3 a0 U a3 q
  refine Cw (T.done S rfl rfl rfl hc i [] s3 B O E' I3 (ah rfl U) a0 a3) (λ r s4 hr=>⟨hr.1,?_⟩) λ _ _ z=>z
  have I4:=hr.2
  have IX:Inv X pins σ O s4:=I.w4 I4.os I4.base I4.hok I4.bare λ b F=>⟨(Y b F).2.2.2.1,(Y b F).2.1,(Y b F).2.2.2.2.1,(Y b F).2.2.2.2.2⟩
  obtain⟨G,aC,_⟩:=I4.loc
  exact aA _ _ O s4 G IX aC a6 I4.free q
 let EE:Value->Shared->Prop:=notedBy (model X.prog X.w) X.A S.env λ e s'=>RR (.ref s₂.heap.objs.size) L.objs.size (.error e) s'
 have a5:N m0 { s₂ with heap:=h₁,toks:=s₂.toks+([]:List (Str×Value)).length }:=by
  refine⟨0,_,[],_,J0,T.keep _ _ _ t0 (λ b _ o e=>al b o e),λ b F=>?_,w0⟩
  obtain⟨o,e⟩:=aj b F
  rw[aE (BU (Heap.lt_size e))]
  exact(Y b F).1
 have ad:codeAny (model X.prog X.w) X.A (.compLoop (.ListComp elt [⟨tg,iter,ifs,0⟩] sc pos) 0 (.ref it) (.ref s₂.heap.objs.size) S.env) (RR (.ref s₂.heap.objs.size) L.objs.size) { s₂ with heap:=h₁,toks:=s₂.toks+([]:List (Str×Value)).length }:=by
  rcases ht with ⟨rfl,ht⟩|⟨c,rfl,ht⟩
  ·refine PySem.W.kcp_loop N (λ n s3 hI=>?_) m0 a5
   obtain⟨i,B,ys,O,I3,a0,U,w3⟩:=hI
   rcases af i n B ys O w3 with ⟨a3,q⟩|⟨go,a1,a2⟩
   ·refine Cw (ae I3 a0 U a3 q) (λ r s4 hr=>?_) λ _ _ z=>z
    obtain⟨rfl,hr⟩:=hr
    exact hr
   ·refine Cw (ag I3 a0 U go a2 (λ pl j H6 s6 I6 M q6=>ar (E':=EE) a1 I6 M (by simpa using ht j H6 _ q6))) (λ r s4 hr=>?_) λ _ _ z=>z
    obtain⟨u,rfl,h4⟩:=hr
    exact h4
  ·refine PySem.W.kct_loop N (λ n s3 hI=>?_) m0 a5
   obtain⟨i,B,ys,O,I3,a0,U,w3⟩:=hI
   rcases af i n B ys O w3 with ⟨a3,q⟩|⟨go,a1,a2⟩
   ·refine Cw (ae I3 a0 U a3 q) (λ r s4 hr=>?_) λ _ _ z=>z
    obtain⟨rfl,hr⟩:=hr
    exact hr
   ·refine Cw (ag (R:=λ s6=>wpAny (model X.prog X.w) X.A (isTrue c S.env (eval c S.env)) (λ ak s7=>if ak=true then wpAny (model X.prog X.w) X.A (eval elt S.env) (λ x s8=>wpAny (model X.prog X.w) X.A (call (.builtin "list.append") [.ref s₂.heap.objs.size,x]) (λ _ s9=>∃ m,m<n/\N m s9) EE s8) EE s7 else ∃ m,m<n/\N m s7) EE s6) I3 a0 U go a2 (λ pl j H6 s6 I6 M q6=>Cw (E':=EE) (ht _ s6 j H6 _ I6 q6) (λ ak s7 h7=>?_) a7)) (λ r s4 hr=>?_) λ _ _ z=>z
    ·obtain⟨H7,I7,q7⟩:=h7
     cases ak with
     | false=>
      obtain⟨G,hm,w7⟩:=q7
      obtain⟨b1,b2,b3⟩:=M I7
      exact⟨G,hm,i+1,j,ys,H7,b1,b2,b3,w7⟩
     | true=>exact ar (E':=EE) a1 I7 M q7
    ·obtain⟨u,rfl,h4⟩:=hr
     exact h4
 exact codeAny_compStart_list ad (T.self _ 0 _ _ _ (T.keep _ _ _ t0 (λ b _ o e=>al b o e)) ad)
theorem cC (N':List Str) (k:Nat) (hc:X.calm=true) (hi:PI X tg iter wi)
  (hb:∀ cl C s₂ H2 fp,PG (cD X sc N' cl C s₂ H2 fp) tg g/\PTs (cD X sc N' cl C s₂ H2 fp) ifs tc/\PE (cD X sc N' cl C s₂ H2 fp) elt te)
  (hk:hR X.N X.env.scope sc N' k=true:=by rfl) (hs:∀ x,foldedSetIterable iter X.env x=pure x:=by intro _;rfl) :
  PE X (.ListComp elt [⟨tg,iter,ifs,0⟩] sc pos) (vj wi k g tc te):=by
 intro pins s σ H Q I h
 have ok:=gM.of hk
 obtain⟨cl,e,hcl,hfr⟩:=eg (sc:=sc) (env:=X.env) (λ y hy hf=>I.ok.has y.1 (ok.free y hy hf))
 rw[eval_ListComp]
 refine wpAny_comprehension_free (use:=none) rfl hs e ok.kind ok.names (thn (hi pins s σ H _ I h) λ v s1 h1=>thn h1 λ itv s2 h2=>?_)
 obtain⟨it,fp,tn,J,H2,rfl,I2,T,st2,f2,R⟩:=h2
 refine i8 (RR:=λ acc C=>compPost (model X.prog X.w) X.A X.xe none (EP X pins σ Q) acc C) hc ok hcl hfr hb I2 T st2 f2 R ?_
 intro acc C H' s' m' I' hn hC hfree q
 refine⟨m',hn,λ h'' hs''=>⟨.ref acc,H',?_,rfl,q⟩⟩
 have z:=I2.lR hC hfree
 exact I'.turned (t':=s'.toks) (λ b o hb e=>hs''.extBut b o hb e) hfree z.2.1 z.2.2.2.1 z.2.2.2.2.1 z.2.2.2.2.2
theorem ji (N':List Str) (k:Nat) {i:Nat}{y:Str}{py spos:Pos}(hc:X.calm=true) (hN:X.N.Nodup) (hj:X.N[i]? = some y) (hx:Loc X.env.scope y) (hi:PI X tg iter wi)
  (hb:∀ cl C s₂ H2 fp,PG (cD X sc N' cl C s₂ H2 fp) tg g/\PTs (cD X sc N' cl C s₂ H2 fp) ifs tc/\PE (cD X sc N' cl C s₂ H2 fp) elt te)
  (hsw:swapsWith (.ListComp elt [⟨tg,iter,ifs,0⟩] sc pos) (some (.Name y py)) spos.line X.env=pure true:=by rfl)
  (hk:hR X.N X.env.scope sc N' k=true:=by rfl) (hs:∀ x,foldedSetIterable iter X.env x=pure x:=by intro _;rfl)
  (hf:X.fn y=true\/X.env.scope.names.lookup y=some .local:=by first|exact .inl rfl|exact .inr rfl|assumption) :
  PS X (.Assign [.Name y py] (.ListComp elt [⟨tg,iter,ifs,0⟩] sc pos) spos) (pM (vj wi k g tc te) (cH i)):=by
 intro pins s σ H D I h
 have ok:=gM.of hk
 obtain⟨cl,e,hcl,hfr⟩:=eg (sc:=sc) (env:=X.env) (λ y hy hf=>I.ok.has y.1 (ok.free y hy hf))
 rw[exec_Assign_Name_used _ _ _ _ hsw]
 refine Bx (wpAny_standAt (Bx ?_))
 show wpAny _ X.A (do let _ <- comprehension (.ListComp elt [⟨tg,iter,ifs,0⟩] sc pos) sc X.env _ (newList []) false (eval iter X.env) (some (assign (.Name y py) X.env))) _ _ s
 refine Bx (Cw (wpAny_comprehension_free (use:=some (assign (.Name y py) X.env)) (Q:=λ _ s'=>SP X pins D .next s') rfl hs e ok.kind ok.names
  (thn (hi pins s σ H _ I h) λ v s1 h1=>thn h1 λ itv s2 h2=>?_)) (λ _ s' hq=>BA (BA hq)) λ _ _ e=>e)
 obtain⟨it,fp,tn,J,H2,rfl,I2,T,st2,f2,R⟩:=h2
 refine i8 (RR:=λ acc C=>compPost (model X.prog X.w) X.A X.xe (some (assign (.Name y py) X.env)) (λ _ s'=>SP X pins D .next s') acc C) hc ok hcl hfr hb I2 T st2 f2 R ?_
 intro acc C H' s' m' I' hn hC hfree q
 show wpAny _ X.A (assign (.Name y py) X.env (.ref acc)) _ _ _
 refine wpAny_assign_Name (jw (v:=.ref acc) I' hN hj hx rfl (λ s'' I'' ch=>?_) hf)
 have z:=I2.lR hC hfree
 obtain⟨a,sb,ha⟩:=ch
 have hCa:C≠a:=by
  rcases ha with ha|ha
  ·rw[ha];exact z.2.1
  ·exact Ne.symm (z.2.2.2.2.1 y a ha)
 refine⟨m',hn.sameBut sb hCa,λ h₃ hs₃=>⟨_,H',?_,q⟩⟩
 exact I''.turned (t':=s''.toks) (λ b o hb e=>hs₃.extBut b o hb e) hfree z.2.1 z.2.2.2.1 z.2.2.2.2.1 z.2.2.2.2.2
end
theorem bo.there {P:Program}{w:World}{H:Hp}{h:Heap}{a:Addr}{o:HO}(x:bo P w H h a o):∃ ob,h.get? a=some ob:=by
 cases o with
 | lst xs=>obtain⟨_,_,_,_,e⟩:=x;exact⟨_,e⟩
 | tup xs=>obtain⟨_,_,_,o,e,_⟩:=x;exact⟨_,e⟩
 | dK kvs=>obtain⟨_,_,_,_,o,_,_,e,_⟩:=x;exact⟨_,e⟩
 | dT kvs=>obtain⟨_,_,_,_,o,_,_,e,_⟩:=x;exact⟨_,e⟩
 | set S n=>obtain⟨o,_,_,_,e,_⟩:=x;exact⟨_,e⟩
 | ins C dx fs=>obtain⟨_,_,_,e,_⟩:=x;exact⟨_,e⟩
 | own y=>obtain⟨_,e⟩:=x;exact⟨_,e⟩
 | xd fs=>obtain⟨_,⟨_,_,_,e,_⟩,_⟩:=x;exact⟨_,e⟩
 | rng lo hi=>obtain⟨_,_,_,e⟩:=x;exact⟨_,e⟩
 | frz ob u=>obtain⟨e,_⟩:=x;exact⟨_,e⟩
 | tbl ps=>exact⟨_,(show h.get? a=some _ from x)⟩
 | met f y=>exact⟨_,(show h.get? a=some _ from x)⟩
 | ext φ=>obtain⟨_,e,_⟩:=x;exact e
theorem HOk.there (x:HOk P w H h) (n:H a≠none):∃ j,h.get? a=some j:=by
 cases q:H a with
 | none=>exact absurd q n
 | some u=>exact(x a u q).there
theorem HOk.pL (x:HOk P w H h) (n:h.get? a=none):H a=none:=by
 cases q:H a with
 | none=>rfl
 | some u=>
  obtain⟨o,e⟩:=(x a u q).there
  rw[n] at e;cases e
noncomputable def Cov (B:Heap) (l:List Env) (H':Hp) (h0 h:Heap):Prop:=∀ b o,h.get? b=some o->b∉frs l->(H' b≠none\/h0.get? b≠none)->B.get? b=some o
structure Air (P:Program) (w:World) (l:List Env) (H:Hp) (s:Shared) (H':Hp) (a:Addr) (cls:Value) (s':Shared):Prop where
 os:s'.os=s.os
 bare:AllBare s'.gens
 un:Un (frs l) [] H H' s.heap s'.heap
 hok:HOk P w H' s'.heap
 new:s.heap.get? a=none
 fly:∃ B a0,Heap.FlyingW B l a cls a0 s'.heap/\Cov B l H' s.heap s'.heap
noncomputable def CXr (P:Program) (w:World):CXT:=λ l H s E e s'=>∃ a cls H',e=.ref a/\Air P w l H s H' a cls s'/\H' a=none/\E cls none H'
noncomputable abbrev ER0:XK:=λ _ _ _=>False
theorem aK:Passes (CXr P w) X ER0:=λ _ _ _ _ _ _ _ h=>by
 obtain⟨_,_,_,_,_,_,z⟩:=h
 exact z.elim
section
variable {P:Program}{w:World}{B:Heap}{l:List Env}{H H':Hp}{h0 h h':Heap}
theorem Un.air (u:Un (frs l) [] H H' h0 h) (hfr:∀ b∈frs l,H b=none) (h0fr:∀ b∈frs l,∃ o,h0.get? b=some o) (cov:Cov B l H' h0 h) (st:B.StaysIn h') (up:h.UpToSlots h') (ff:h.FunFrames B l):Un (frs l) [] H H' h0 h':=by
 have slot:∀ b o,b∈frs l->h.get? b=some o->∃ sl,h'.get? b=some { o with slots:=sl }:=λ b o hb e=>by
  obtain⟨_,o',e',d⟩:=ff.mem hb
  rw[e] at e';cases e'
  exact up b o e d
 have keep:∀ b o,b∉frs l->h0.get? b≠none->h.get? b=some o->h'.get? b=some o:=λ b o hb hn e=>st b o (cov b o e hb (.inr hn))
 refine⟨λ b o e n hb hx=>keep b o hb (by rw[e];simp) (u.keep b o e n hb hx),λ b o e n hb hx=>?_,u.free,λ b o e hx=>?_,u.tups,u.frzs,u.tbls⟩
 ·obtain⟨sl,e1⟩:=u.slot b o e n hb hx
  obtain⟨sl',e2⟩:=slot b _ hb e1
  exact⟨sl',e2⟩
 ·obtain⟨o',e1⟩:=u.there b o e hx
  by_cases hb:b∈frs l
  ·obtain⟨sl,e2⟩:=slot b o' hb e1
   exact⟨_,e2⟩
  ·exact⟨o',keep b o' hb (by rw[e];simp) e1⟩
theorem HOk.air (x:HOk P w H' h) (hfr:∀ b∈frs l,H' b=none) (cov:Cov B l H' h0 h) (st:B.StaysIn h'):HOk P w H' h':=λ a o e=>by
 have k:∀ b u,H' b≠none->h.get? b=some u->h'.get? b=some u:=λ b u n q=>st b u (cov b u q (λ z=>n (hfr b z)) (.inl n))
 refine(x a o e).iT (λ b u hb q=>k b u ?_ q) (λ _ q=>q) λ _ _ q=>q
 rcases hb with rfl|hb
 ·rw[e];simp
 ·rw[hb];simp
end
section
variable {X:Cx}{pins:List (Addr×Obj)}{σ:St}{H H':Hp}{s s':Shared}{a:Addr}{cls:Value}
theorem Inv.ly (I:Inv X pins σ H s):∀ b∈frs X.stack,∃ o,s.heap.get? b=some o:=λ b hb=>let ⟨_,o,e,_⟩:=I.stack.mem hb;⟨o,e⟩
end
section
variable {P:Program}{w:World}{K:PySem.W.Frag}{mg:Str->Option Value}{base:Heap}{N:List Str}{qual:Str}{scope:Scope}{f:Addr}{cd:Value}{A:Around}{outer:List Env}{s₀:Shared}{H₀:Hp}{E:XK}
theorem ua {X:Cx}{pins:List (Addr×Obj)}{σ:St}{H H':Hp}{s s':Shared}{a:Addr}{cls a0:Value}{B h':Heap}(I:Inv X pins σ H s) (hst:X.stack=X.env::X.outer) (hf:X.env.frame=some X.env.locals) (hex:X.ex=[])
  (os:s'.os=s.os) (bare:AllBare s'.gens) (un:Un (frs X.stack) [] H H' s.heap s'.heap) (hok:HOk X.prog X.w H' s'.heap) (new:s.heap.get? a=none) (ff:s'.heap.FunFrames B X.stack)
  (cov:Cov B X.stack H' s.heap s'.heap) (fl:Heap.FlyingW B X.outer a cls a0 h') (up:s'.heap.UpToSlots h'):Air X.prog X.w X.outer X.H₀ X.s₀ H' a cls { s' with heap:=h' }:=by
 have hfree:∀ b∈frs X.stack,H' b=none:=λ b hb=>by
  obtain⟨o,e⟩:=I.ly b hb
  exact un.free b o e (I.ic b hb) (by simp)
 have sub:∀ b,b∈frs X.stack->b=X.env.locals\/b∈frs X.outer:=λ b hb=>BF.mp (I.iD b hb)
 have sub':∀ b,b∈frs X.outer->b∈frs X.stack:=λ b hb=>by
  rw[hst];unfold frs;rw[EC,hf];exact BQ _ hb
 have un2:Un (frs X.stack) [] H H' s.heap h':=un.air (λ b hb=>I.ic b hb) I.ly cov fl.1 up ff
 have base0:=I.base
 rw[hex] at base0
 have neL:∀ b o,X.s₀.heap.get? b=some o->b≠X.env.locals:=λ b o e=>BU (BW (Heap.lt_size e) I.ok.above)
 refine⟨os.trans I.os,bare,⟨λ b o e n hb hx=>?_,λ b o e n hb hx=>?_,λ b o e n hx=>?_,λ b o e hx=>?_,λ b xs e=>un2.tups b xs (base0.tups b xs e),λ b o u e=>un2.frzs b o u (base0.frzs b o u e),λ b ps e=>?_⟩,
  hok.air hfree cov fl.1,?_,B,a0,fl,λ b o e hb hc=>?_⟩
 ·refine un2.keep b o (base0.keep b o e n hb hx) (base0.free b o e n hx) (λ z=>?_) hx
  rcases sub b z with q|q
  ·exact neL b o e q
  ·exact hb q
 ·obtain⟨sl,e1⟩:=base0.slot b o e n hb hx
  obtain⟨sl',e2⟩:=un2.slot b _ e1 (base0.free b o e n hx) (sub' b hb) hx
  exact⟨sl',e2⟩
 ·obtain⟨o',e1⟩:=base0.there b o e hx
  exact un2.free b o' e1 (base0.free b o e n hx) hx
 ·obtain⟨o',e1⟩:=base0.there b o e hx
  exact un2.there b o' e1 hx
 ·obtain⟨m1,e1⟩:=base0.tbls b ps e
  obtain⟨m2,e2⟩:=un2.tbls b _ e1
  exact⟨m1++m2,by rw[e2,Array.append_assoc]⟩
 ·cases q:X.s₀.heap.get? a with
  | none=>rfl
  | some o=>
   obtain⟨o',e1⟩:=base0.there a o q (by simp)
   rw[new] at e1;cases e1
 ·have hb':b∉frs X.stack:=λ z=>by
   rcases sub b z with q|q
   ·subst q
    rcases hc with hc|hc
    ·exact hc (hfree _ z)
    ·cases q:X.s₀.heap.get? X.env.locals with
     | none=>exact hc q
     | some o'=>exact neL _ o' q rfl
   ·exact hb q
  have there:∃ o',s'.heap.get? b=some o':=by
   rcases hc with hc|hc
   ·exact hok.there hc
   ·cases q:X.s₀.heap.get? b with
    | none=>exact absurd q hc
    | some o'=>
     obtain⟨o1,e1⟩:=base0.there b o' q (by simp)
     exact un.there b o1 e1 (by simp)
  obtain⟨o',e'⟩:=there
  have hc':H' b≠none\/s.heap.get? b≠none:=by
   rcases hc with hc|hc
   ·exact .inl hc
   ·cases q:X.s₀.heap.get? b with
    | none=>exact absurd q hc
    | some o'=>
     obtain⟨o1,e1⟩:=base0.there b o' q (by simp)
     exact .inr (by rw[e1];simp)
  have q:=cov b o' e' hb' hc'
  have q':=fl.1 b o' q
  have e':h'.get? b=some o:=e
  rw[q'] at e';cases e'
  exact q
theorem lW {pins:List (Addr×Obj)}{σ:St}{H:Hp}{s s':Shared}{a:Addr}{cls:Value}{vs:List Value}(I:Inv (dN (CXr P w) P w K mg base N qual scope f cd A outer s₀ H₀ E) pins σ H s)
  (os:s'.os=s.os) (gens:s'.gens=s.gens) (hx:Heap.MadeExcOf s.heap s'.heap a cls vs) (q:E cls none H):(dN (CXr P w) P w K mg base N qual scope f cd A outer s₀ H₀ E).xe (.ref a) s':=by
 let X:=dN (CXr P w) P w K mg base N qual scope f cd A outer s₀ H₀ E
 have hB:(PySem.W.hideAll s.heap (frs X.stack)).StaysIn s.heap:=λ b o e=>PySem.W.of_hideAll _ e
 have ff:s.heap.FunFrames (PySem.W.hideAll s.heap (frs X.stack)) X.stack:=PySem.W.funFrames_hide I.stack λ env he b hb=>Fv.mpr ⟨env,he,hb⟩
 have ff':s'.heap.FunFrames (PySem.W.hideAll s.heap (frs X.stack)) X.stack:=ff.of_keeps λ b o e _=>⟨o,hx.keeps b o e,rfl⟩
 have hok:HOk X.prog X.w H s'.heap:=I.hok.kept hx.keeps
 have ha:H a=none:=I.hok.pL hx.new
 show wpAny _ _ (leaving _ _) _ _ _
 refine wpAny_leaves_madeW I.ok.frames rfl hB ff hx λ h' t fl' _ _ up=>?_
 refine⟨a,cls,H,rfl,ua (X:=X) (B:=PySem.W.hideAll s.heap (frs X.stack)) I rfl rfl rfl os (by rw[gens];exact I.bare) (Un.kept hx.keeps) hok hx.new ff' ?_ fl' up,ha,q⟩
 intro b o e hb hc
 have there:∃ o',s.heap.get? b=some o':=by
  rcases hc with hc|hc
  ·exact I.hok.there hc
  ·cases z:s.heap.get? b with
   | none=>exact absurd z hc
   | some o'=>exact⟨o',rfl⟩
 obtain⟨o',e'⟩:=there
 have q':=hx.keeps b o' e'
 have e:s'.heap.get? b=some o:=e
 rw[q'] at e;cases e
 exact PySem.W.hideAll_get _ e' hb
end
section
variable {K:PySem.W.Frag}{h:Heap}{C:Addr}{bmB:List Value}{newId:String}
theorem tP (j:K.In h) (q:PySem.W.excIn K C bmB newId=true) :
  ∃ bm N nm qn bs hd sn sub ab col dd k0 k1 k2 k3 k5 M,h.get? C=some (excClassObj nm qn C N bs bm hd sn sub ab col dd k0 k1 k2 k3 k5 newId)/\h.Ns N M/\M "__init__" = none/\OwnTail h bmB bm:=by
 revert q
 unfold PySem.W.excIn
 split
 ·rename_i dd cd sl F
  split
  ·rename_i C' bm O R p2 S mk U L es
   intro q
   have q:=q
   rw[CG,CG,CG,CG,CG] at q
   obtain⟨⟨⟨⟨⟨q1,q2⟩,V⟩,W⟩,J⟩,Y⟩:=q
   obtain rfl:=Dc.mp q1
   obtain rfl:=Dc.mp q2
   have z:=j _ _ F
   have D:sl = #[O,R,p2,S,some (.builtin mk),U]:=by
    have:=congrArg List.toArray es
    simpa using this
   rw[D] at z
   obtain⟨Z,c2,c3,c4,c5,c6,c7,c8,c9,G,I⟩:=cd
   simp only at L V W J Y z
   subst L
   have e3:I=false:=by simpa using V
   refine⟨bm,c4,Z,c5,c2,c6,c7,c8,c9,G,dd,O,R,p2,S,U,_,?_,.of_isNs (PySem.W.isNs_of_in j J),PySem.W.nsMap_none_of_in j J (Dc.mp Y),PySem.W.tail_of_in j W⟩
   rw[z]
   unfold excClassObj
   rw[e3]
  ·intro q;cases q
 ·intro q;cases q
end
noncomputable abbrev uM:List Value:=[.type "ValueError",.type "Exception",.type "BaseException",.type "object"]
noncomputable def tJ (K:PySem.W.Frag) (C:Addr):Prop:=PySem.W.excIn K C uM "ValueError.__new__" = true
noncomputable def vY (E:XK) (C:Addr) (t:TA):TS:=λ _ σ H=>t σ H λ vs H1=>vs.length<=100/\E (.ref C) none H1
section
variable {P:Program}{w:World}{K:PySem.W.Frag}{mg:Str->Option Value}{base:Heap}{N:List Str}{qual:Str}{scope:Scope}{f:Addr}{cd:Value}{A:Around}{outer:List Env}{s₀:Shared}{H₀:Hp}{E:XK}
theorem mq (Z:A.handled=none) (Y:Gl (dN (CXr P w) P w K mg base N qual scope f cd A outer s₀ H₀ E) x) (hm:mg x=some (.ref C)) (q:tJ K C)
  (U:PA (dN (CXr P w) P w K mg base N qual scope f cd A outer s₀ H₀ E) (e::es) t) (F:(x == ("__debug__" : Str))=false:=by decide)
  (W:starEach (e::es) (dN (CXr P w) P w K mg base N qual scope f cd A outer s₀ H₀ E).env=(false,eval e (dN (CXr P w) P w K mg base N qual scope f cd A outer s₀ H₀ E).env)::starEach es (dN (CXr P w) P w K mg base N qual scope f cd A outer s₀ H₀ E).env:=by rfl)
  (J:(backTo cpos (starEach (e::es) (dN (CXr P w) P w K mg base N qual scope f cd A outer s₀ H₀ E).env)).any (·.1)=false:=by rfl) :
  PS (dN (CXr P w) P w K mg base N qual scope f cd A outer s₀ H₀ E) (.Raise (some (.Call (.Name x np) (e::es) [] cpos)) none pos) (vY E C t):=by
 intro pins s σ H D I h
 obtain⟨bm,O,nm,qn,bs,V,sn,sub,ab,col,dd,k0,k1,k2,k3,k5,mN,R,S,G,M⟩:=tP I.ok.mod.kin q
 refine wpAny_Raise_call_subT (C:=C) (N:=O) (nm:=nm) (q:=qn) (bs:=bs) (bm:=bm) (hdct:=V) (sn:=sn) (sub:=sub) (ab:=ab) (col:=col) (dd:=dd) (k0:=k0) (k1:=k1) (k2:=k2) (k3:=k3) (k5:=k5)
  PySem.F.excBase_ValueError (M.hasType (by decide)) Z J G (fZ I Y hm ⟨rfl,?_⟩ F)
 have h2:=U cpos pins s σ H _ I h
 rw[W] at h2 ⊢
 refine Calls.evalArgs_plain (Cw h2 (λ us s2 hq=>?_) λ _ _ z=>z)
 obtain⟨vs,H2,j,r2,L,q2⟩:=hq
 refine⟨rfl,?_,j.bk _ _ R,S.keeps j.bk,M.keeps j.bk,λ h' a hx=>lW j rfl rfl hx q2⟩
 show us.length<=sizeLine
 rw[<- r2.length]
 exact B6 L (by decide)
end
section
variable {P:Program}{w:World}{K:PySem.W.Frag}{mg:Str->Option Value}{base:Heap}
theorem Fun.okR {x qual:Str}{st:Stmt}{f:Addr}{fd:FuncData}{N ps:List Str}{k:Nat}{sp:Sp}(F:Fun K x qual st f fd) (S:aQ N ps (aM st)) (G:∀ vs H Q E,sp vs H Q E->vs.length=ps.length)
  (q:∀ (j:Value) (A:Around) (outer:List Env) (s:Shared) (H:Hp) (vs:List V) (Q:VK) (E:XK),A.handled=none->cB k (A.deeper (envOfC qual (aM st) s.heap.objs.size f j))->sp vs H Q E ->
   ∃ t,PSs (dN (CXr P w) P w K mg base N qual (aM st) f j A outer s H E) (dW st) t/\t { nx:=λ _ H'=>Q .non H',rt:=Q } (start N vs) H):bB P w K mg base (CXr P w) (k+1) f fd ps sp:=by
 obtain⟨W,Y,U,J,Z,O,j,R,M,rfl,L,z⟩:=F.ex
 exact uB L z S G λ A outer s H vs Q E I D=>q j A outer s H vs Q E I.hd I D
theorem Fun.okN {x qual:Str}{st:Stmt}{f:Addr}{fd:FuncData}{N ps:List Str}{k:Nat}{sp:Sp}(F:Fun K x qual st f fd) (S:aQ N ps (aM st)) (I:∀ vs H Q E,sp vs H Q E->vs.length=ps.length)
  (z:∀ (j:Value) (A:Around) (outer:List Env) (s:Shared) (H:Hp) (vs:List V) (Q:VK) (E:XK),cB k (A.deeper (envOfC qual (aM st) s.heap.objs.size f j))->sp vs H Q E ->
   ∃ t,PSs (dN (CXr P w) P w K mg base N qual (aM st) f j A outer s H E).nox (dW st) t/\t { nx:=λ _ H'=>Q .non H',rt:=Q } (start N vs) H):bB P w K mg base (CXr P w) (k+1) f fd ps sp:=by
 obtain⟨Y,Z,W,J,pm,R,j,U,O,rfl,M,D⟩:=F.ex
 refine uB M D S I λ A outer s H vs Q E L G=>?_
 obtain⟨t,h,q⟩:=z j A outer s H vs Q E L G
 exact⟨t,h.nox,q⟩
end
noncomputable abbrev TX:=St->Hp->VK->XK->Prop
section
variable {X:Cx}{k:Nat}{f C:Addr}{fd:FuncData}{ps:List Str}{sp:Sp}{x m:Str}{p pos apos:Pos}{e o:Expr}{es:List Expr}{ta:TE}{t:TA}
end
noncomputable def wK (a:Addr) (cls:Value):HO:=.ext λ h=>∃ oe vs,h.get? a=some oe/\oe.cls=cls/\oe.data=.fields vs
section
variable {X:Cx}{pins:List (Addr×Obj)}{σ:St}{H:Hp}{s:Shared}{e:Value}
end
section
variable {X:Cx}{pins:List (Addr×Obj)}{σ:St}{Hc H':Hp}{sc s':Shared}{a:Addr}{cls a0:Value}{B h':Heap}
end
section
variable {X:Cx}{e:Expr}{x n:Str}{np p2 pos hpos:Pos}{b₀:Stmt}{suite:List Stmt}{tx:TX}{ts:TS}{c:Value}{i:Nat}
end
open PySem PySem.W PySem.Spec PySem.Calls PyProof.Rows Builtin.Getset_descriptor
section
variable {prog:Program}{w:World}{A:Around}{E:Value->Shared->Prop}{s:Shared}{K:Frag}{x D:Addr}{ox:Obj}
structure mK (K:Frag) (D:Addr):Prop where
 ga:findIn K (.ref D) "__getattribute__" = some (some (.builtin "BaseException.__getattribute__"))
 gb:findIn K (.ref D) "__getattr__" = some none
 ha:findIn K (.ref D) "__class__" = some (some (.builtin "object.__class__"))
 hn:specialIn K (.builtin "object.__class__") "__get__" = some (some (.builtin "getset_descriptor.__get__"))
 htk:takesIn K (.builtin "object.__class__")=some true
 hm:mroIn K D (.type "object")=some true
 hb:mroIn K D (.type "BaseException")=some true
structure ExcAt (h:Heap) (x D:Addr):Prop where
 ex:∃ o vs,h.get? x=some o/\o.cls=.ref D/\o.data=.fields vs
theorem ExcAt.type (I:ExcAt h x D):Looks M h (typeOf (.ref x)) (.ref D):=by
 obtain⟨o,j,e,c,_⟩:=I.ex
 exact c ▸ ((Looks.ld e).andThen .now)
theorem rA (T:mK K D) (j:K.In h):Looks M h (Builtin.ObjectAttr.find (.ref x) (.ref D) "__class__") (.bind (.builtin "getset_descriptor.__get__") (.builtin "object.__class__")):=by
 refine(looks_findIn (M:=M) j T.ha).andThen ((looks_specialIn (M:=M) j T.hn).andThen ?_)
 have q:Looks M h (Builtin.ObjectAttr.dataDescriptor? (some (.builtin "object.__class__")) (some (.builtin "getset_descriptor.__get__"))) (some (.builtin "getset_descriptor.__get__",.builtin "object.__class__")):=
  (looks_takesIn (M:=M) j T.htk).andThen (by rw[BN rfl];exact Looks.now)
 exact q.andThen (Looks.tag .now)
theorem tS (T:mK K D) (j:K.In s.heap) (I:ExcAt s.heap x D) (h:R (.ok (.ret (.ref D))) s) :
  codeAny (model prog w) A (.call (.builtin "getset_descriptor.__get__") ⟨[.builtin "object.__class__",.ref x,tp],[]⟩) R s:=by
 obtain⟨o,O,e,c,G⟩:=I.ex
 obtain⟨J,g,F,t,L⟩:=s
 have q:=I.type (M:=model prog w)
 have z:=looks_mroIn (M:=model prog w) j T.hm
 refine Fo KF.slot_gs.plain KF.entry_gs (KF.slot_gs.check _ _ _ _ _ _ _ _ KF.type_class (KF.args_gs _ _ _) ?_)
 unfold Builtin.«getset_descriptor.__get__» descrGet
 rw[dga_obj]
 refine Bx (BA ?_)
 unfold descrGetter descrCheckInstance descrNameAndClass isInstance
 simp only[KF.owner_class]
 repeat lk
 refine⟨Code.quiet_builtin _ (by decide +kernel),CP KF.entry_class ?_⟩
 unfold Builtin.«object.__class__» shownTypeOf
 repeat lk
 exact h
theorem qh {Q:Option Value->Shared->Prop}(T:mK K D) (kin:K.In s.heap) (I:ExcAt s.heap x D) (h:Q (some (.ref D)) { s with toks:=s.toks+1 }):wpAny (model prog w) A (getAttr? (.ref x) "__class__") Q E s:=by
 obtain⟨hh,g,d,t,os⟩:=s
 have look1:=I.type (M:=model prog w)
 have look2:=looks_findIn (M:=model prog w) kin T.ga
 have look3:=looks_findIn (M:=model prog w) kin T.gb
 have look4:Looks (model prog w) hh (isInstance (.ref x) (.type "BaseException")) true:=look1.andThen (looks_mroIn (M:=model prog w) kin T.hb)
 have look5:=rA (M:=model prog w) (x:=x) T kin
 unfold getAttr? getAttrBy? getAttrBy
 refine Bx (wpAny_mkText (Bx (D8 (CD (Bx (look1.at (Bx (look2.at ?_))))))))
 show wpAny _ _ (getAttrByItsOwn _ _ _ _ _ _) _ _ _
 unfold getAttrByItsOwn hookBefore
 refine Bx (look3.at (Bx (D8 (CD ?_))))
 show wpAny _ _ (boundAndCalled _ _ _) _ _ _
 unfold boundAndCalled
 refine Bx (CY (PySem.F.attr_ValueError.ga.bind (.ref x)) (EJ (Fo PySem.F.attr_ValueError.ga.plain PySem.F.entry_bexc_ga ?_)))
 have kind:builtinKind "BaseException.__getattribute__" = some .slot:=by decide +kernel
 have parts:splitId "BaseException.__getattribute__" = some ("BaseException","__getattribute__"):=by decide +kernel
 simp only[checkBuiltinCall,kind,parts]
 have fits:=PySem.F.args_bexc_ga (.ref x) (.str "__class__" t)
 refine Bx (look4.at ?_)
 simp only[Du,B0,CJ]
 repeat (any_goals (first|assumption|wp_step))
 obtain⟨o,vs,e,c,dt⟩:=I.ex
 refine wpAny_loadPart_at e ?_
 rw[c]
 refine BA (Bx (look5.at ?_))
 dsimp only
 show wpAny _ _ (holding [Value.builtin "object.__class__"] (call (.builtin "getset_descriptor.__get__") [.builtin "object.__class__",.ref x,.ref D]) >>= ret) _ _ _
 refine Bx (CD (EJ (tS (s:=⟨hh,g,d,t+1,os⟩) T kin ⟨o,vs,e,c,dt⟩ ?_)))
 exact BA (BA (BA h))
theorem sy (T:mK K D):KitX K (.ref x) (.ref D) (λ h=>ExcAt h x D) where
 ty:=λ _ _ _ I=>I.type
 it:=λ _ h kin _=>by
  obtain⟨cd,a,_⟩:=Option.bind_eq_some_iff.mp T.hm
  revert a
  unfold clsIn
  split
  ·rename_i look
   intro _ A' Q' E' s' k q
   unfold isType loadHead
   exact Bx (wpAny_loadPart (k _ _ (kin _ _ look)) (BA q))
  ·intro a;cases a
 ne:=λ h tp dd its n sl kin htp=>by
  obtain⟨cd,a,_⟩:=Option.bind_eq_some_iff.mp T.hm
  refine Bool.eq_false_iff.mpr λ q=>?_
  obtain rfl:D=tp:=Value.ref.inj (Dc.mp q)
  revert a
  unfold clsIn
  split
  ·rename_i look
   intro _
   have z:=(kin _ _ look).symm.trans htp
   cases z
  ·intro a;cases a
 ca:=λ kin I k=>qh T kin I k
end
theorem nL (I:Inv X pins σ H s) (e:H a=some (wK a (.ref C))) (T:mK X.K C)
  (k:kitOne X.K (.ref C) c=some b) (h:∀ tk,Q (.bool b) { s with toks:=tk }):wpAny (model X.prog X.w) A (call (.builtin "isinstance") [.ref a,c]) Q E s:=by
 obtain⟨⟨G,J,F,j,q⟩,_⟩:=(show bo X.prog X.w H s.heap a (wK a (.ref C)) from I.hok a _ e)
 exact kia_one (sy T) I.kIn ⟨G,J,F,j,q⟩ k (λ z=>nomatch z) h
mutual
inductive Rp (K:PySem.W.Frag) (H:Hp):V->PyData->Prop
 | non:Rp K H .non .none
 | bl (b:Bool):Rp K H (.bl b) (.bool b)
 | int (i:Int):Rp K H (.int i) (.int i)
 | str (x:Str):Rp K H (.str x) (.str x)
 | lst {a:Addr} {vs:List V} {ds:List PyData}:SqL K H a vs->bR K H vs ds->Rp K H (.ref a) (.list ds)
 | tup {a:Addr} {vs:List V} {ds:List PyData}:SqT K H a vs->bR K H vs ds->Rp K H (.ref a) (.tuple ds)
inductive bR (K:PySem.W.Frag) (H:Hp):List V->List PyData->Prop
 | nil:bR K H [] []
 | cons {v:V} {vs:List V} {d:PyData} {ds:List PyData}:Rp K H v d->bR K H vs ds->bR K H (v::vs) (d::ds)
end
section
variable {X:Cx}{pins:List (Addr×Obj)}{σ:St}{H:Hp}{s:Shared}
mutual
theorem Rp.reads (I:Inv X pins σ H s):∀ {x:V}{d:PyData}{u:Value},Rp X.K H x d->RelV x u->∃ as,Reads s.heap u d as
 | _,_,u,.non,r=>by cases (show u=Value.none from r);exact⟨_,.none⟩
 | _,_,u,.bl b,r=>by cases (show u=Value.bool b from r);exact⟨_,.bool b⟩
 | _,_,u,.int i,r=>by obtain⟨t,rfl⟩:=(show ∃ t,u=Value.int i t from r);exact⟨_,.int i t⟩
 | _,_,u,.str x,r=>by obtain⟨t,rfl⟩:=(show ∃ t,u=Value.str x t from r);exact⟨_,.str x t⟩
 | _,_,u,@Rp.lst _ _ a vs ds q all,r=>by
  cases (show u=Value.ref a from r)
  obtain⟨its,rv,pl,_⟩:=I.list q
  obtain⟨as,ra⟩:=bR.reads I all rv
  obtain⟨o,n,e,c,_,d⟩:=pl
  exact⟨_,.list e c d (by simpa using ra)⟩
 | _,_,u,@Rp.tup _ _ a vs ds q all,r=>by
  cases (show u=Value.ref a from r)
  obtain⟨its,rv,pl,_⟩:=I.tuple q
  obtain⟨as,ra⟩:=bR.reads I all rv
  obtain⟨o,e,c,n,d⟩:=pl
  exact⟨_,.tuple e c d (by simpa using ra)⟩
theorem bR.reads (I:Inv X pins σ H s):∀ {xs:List V}{ds:List PyData}{us:List Value},bR X.K H xs ds->Vals xs us->∃ as,ReadsAll s.heap us ds as
 | _,_,_,.nil,.nil=>⟨_,.nil⟩
 | _,_,_,.cons p ps,.cons r rs=>by
  obtain⟨as,h1⟩:=Rp.reads I p r
  obtain⟨bs,h2⟩:=bR.reads I ps rs
  exact⟨_,.cons h1 h2⟩
end
end
noncomputable def um (K:PySem.W.Frag) (neg:Bool):R2:=λ x y H Q=>∃ d e,Rp K H x d/\Rp K H y e/\SeqAt.shaped d=true/\SeqAt.shaped e=true/\Q (.bl (if neg then !PyData.eqv d e else PyData.eqv d e)) H
section
variable {X:Cx}
theorem vQ (j:X.A.units+64<cLine):OpR X (compareOp .Eq) (um X.K false):=by
 intro pins s σ H x y v u Q I L M h
 obtain⟨d,e,z,F,O,R,q⟩:=h
 obtain⟨_,G⟩:=z.reads I L
 obtain⟨_,J⟩:=F.reads I M
 exact eq_dataH G J O R j ⟨.bl (PyData.eqv d e),H,I,rfl,q⟩
theorem we (j:X.A.units+64<cLine):OpR X (compareOp .NotEq) (um X.K true):=by
 intro pins s σ H x y v u Q I L M h
 obtain⟨d,e,z,F,O,R,q⟩:=h
 obtain⟨_,G⟩:=z.reads I L
 obtain⟨_,J⟩:=F.reads I M
 exact ne_dataH G J O R j ⟨.bl (!PyData.eqv d e),H,I,rfl,q⟩
inductive TyX (K:PySem.W.Frag) (H:Hp):V->Value->Prop
 | plain {x:V} {t:Value}:gI K H x t->TyX K H x t
 | exc {a C:Addr}:H a=some (wK a (.ref C))->mK K C->TyX K H (.ref a) (.ref C)
noncomputable def wG (K:PySem.W.Frag):List V->Hp->VK->Prop:=λ xs H Q=>match xs with
 | [x,.ty T]=>∃ t b,TyX K H x t/\PySem.W.kitOne K t (.type T)=some b/\Q (.bl b) H
 | [x,.ref C]=>∃ t b,TyX K H x t/\PySem.W.kitOne K t (.ref C)=some b/\Q (.bl b) H
 | _=>False
theorem mh:cx X (.builtin "isinstance") (wG X.K):=by
 intro pins s σ H xs M Q I r h
 have L:∀ {x:V} {z c t:Value} {b:Bool},RelV x z->TyX X.K H x t->PySem.W.kitOne X.K t c=some b->Q (.bl b) H->wpAny (model X.prog X.w) X.A (call (.builtin "isinstance") [z,c]) (EP X pins σ Q) X.xe s:=by
  intro x z c t b j ty k q
  have F:∀ tk,EP X pins σ Q (.bool b) { s with toks:=tk }:=λ tk=>⟨.bl b,H,I.tok tk,rfl,q⟩
  cases ty with
  | plain ty=>exact pI I j ty k F
  | exc e T=>
   cases (show z=Value.ref _ from j)
   exact nL I e T k F
 unfold wG at h
 split at h
 ·obtain⟨t,b,ty,k,q⟩:=h
  obtain⟨z,J,rfl,j,G⟩:=vals2 r
  cases (show J=Value.type _ from G)
  exact L j ty k q
 ·obtain⟨t,b,ty,k,q⟩:=h
  obtain⟨z,J,rfl,j,G⟩:=vals2 r
  cases (show J=Value.ref _ from G)
  exact L j ty k q
 ·exact h.elim
theorem jQ (q:Gl X x) (h:∃ t,X.mg x=some (.int i t)) (j:(x == ("__debug__" : Str))=false:=by decide):PE X (.Name x pos) (tC (.int i)):=by
 obtain⟨t,h⟩:=h
 exact om q h ⟨t,rfl⟩ j
theorem eY (K) (t):PySem.W.kitOne K t t=some true:=by
 unfold PySem.W.kitOne
 rw[BN (E1 t)]
structure pS (K:PySem.W.Frag) (C:Addr):Prop where
 ha:PySem.W.findIn K (.ref C) "__class__" = some (some (.builtin "object.__class__"))
 hn:PySem.W.specialIn K (.builtin "object.__class__") "__get__" = some (some (.builtin "getset_descriptor.__get__"))
 ht:PySem.W.takesIn K (.builtin "object.__class__")=some true
 hm:PySem.W.mroIn K C (.type "object")=some true
theorem pS.ty {K:PySem.W.Frag}{C a dx:Addr}{fs:List (Str×V)}{H:Hp}(k:pS K C) (c:Cls K C) (e:H a=some (.ins C dx fs)):TyX K H (.ref a) (.ref C):=.plain (.ins e c k.ha k.hn k.ht k.hm)
end
structure MkO (K:PySem.W.Frag) (C:Addr):Prop where
 makes:PySem.W.makesIn K C=true
 init:PySem.W.findIn K (.ref C) "__init__" = some (some (.builtin "object.__init__"))
 kp:PySem.W.keepIn K (.ref C)=true
noncomputable def wc (C:Addr):TE:=λ _ H Q=>∀ x dx,H x=none->H dx=none->dx≠x->Q (.ref x) (upd (upd H dx (.own x)) x (.ins C dx []))
section
variable {X:Cx}{C:Addr}{x:Str}{p pos:Pos}
theorem lO (M:MkO X.K C) (R:Gl X x) (S:X.mg x=some (.ref C)) (G:(x == ("__debug__" : Str))=false:=by decide):PE X (.Call (.Name x p) [] [] pos) (wc C):=by
 intro pins s σ H Q I h
 refine Ec (fZ I R S ?_ G)
 refine PySem.W.callWith_K0 I.kIn M.kp ?_
 have O:=Inv.made (C:=C) I
 have U:=h (s.heap.objs.size+1) s.heap.objs.size (I.hok.fresh (D1 _)) (I.hok.fresh (Nat.le_refl _)) (BU (D4 _))
 refine EJ (pB I.kIn M.makes M.init (λ z=>PySem.W.Looks.of_pure (PySem.W.oi_bind z)) ?_)
 obtain⟨j,g,d,t,V⟩:=s
 have F:((j.push PySem.W.emptyDict).push (PySem.W.instObj C j.objs.size)).get? (j.objs.size+1)=some (PySem.W.instObj C j.objs.size):=by
  have:=Heap.get?_push_size (j.push PySem.W.emptyDict) (o:=PySem.W.instObj C j.objs.size) rfl
  rwa [Heap.size_push] at this
 have q:PySem.W.Looks (model X.prog X.w) ((j.push PySem.W.emptyDict).push (PySem.W.instObj C j.objs.size)) (typeOf (.ref (j.objs.size+1))) (.ref C):=(PySem.W.Looks.ld F).andThen .now
 have L:=(FJ (M:=model X.prog X.w) I.kIn M.makes).top
 have J:PySem.W.Looks (model X.prog X.w) ((j.push PySem.W.emptyDict).push (PySem.W.instObj C j.objs.size)) (isInstance (.ref (j.objs.size+1)) (.type "object")) true:=
  q.andThen (L.keeps λ b o e=>Heap.get?_push_of_some _ (Heap.get?_push_of_some _ e))
 refine Fo PySem.W.oi_plain PySem.W.entry_oi (@PySem.W.check_slot (model X.prog X.w) _ _ _ _ _ _ _ [] [] _ PySem.W.oi_kind PySem.W.oi_split J (PySem.W.oi_args _) ?_)
 rw[PySem.W.oi_run]
 exact BA ⟨rfl,.ref (j.objs.size+1),_,O,rfl,U⟩
end
section
variable {X:Cx}{K:PySem.W.Frag}{a b e o value l:Expr}{es:List Expr}{f name:Str}{pos pos' apos cpos:Pos}{ta tb tv tl to:TE}{t:TA}{tg:Expr}
theorem aO (z:PE X e ta) (q:attributeBase e f X.env (eval e X.env)=eval e X.env) (j:X.K=K:=by rfl):PE X (.Attribute e f pos) (qS K ta f):=j ▸ vK z q
theorem bH (q:PE X o ta) (z:PE X value tv) (hs:swapsWith value (some (.Attribute o f pos')) pos.line X.env=pure false) (j:X.K=K:=by rfl):PS X (.Assign [.Attribute o f pos'] value pos) (zC K ta tv f):=j ▸ wq q z hs
theorem cX (q:PE X l tl) (j:X.K=K:=by rfl):PI X tg l (uG K tl):=j ▸ sY q
theorem uo (q:PE X l tl) (j:X.K=K:=by rfl):PI X tg l (zN K tl):=j ▸ vV q
theorem aZ (j:X.K=K:=by rfl):IxR X (wJ K):=j ▸ tY
theorem bz (j:X.K=K:=by rfl):IxR X (yU K):=j ▸ wg
theorem ro (j:X.K=K:=by rfl):SlR X (v5 K):=j ▸ sU
theorem qY (j:X.K=K:=by rfl):OpR X (compareOp .In) (rIn K false):=j ▸ qt
theorem gK (j:X.K=K:=by rfl):OpR X (compareOp .NotIn) (rIn K true):=j ▸ ku
noncomputable def Bo (K:PySem.W.Frag):List V->Hp->VK->Prop:=λ xs H Q=>∃ p ys,xs=[.ref p]/\(SqL K H p ys\/SqT K H p ys)/\Q (.int ys.length) H
theorem dH (j:X.K=K:=by rfl):cx X (.builtin "len") (Bo K):=j ▸ j4
noncomputable def tV (K:PySem.W.Frag):List V->Hp->VK->Prop:=λ xs H Q=>∃ p ys,xs=[.ref p]/\(SqL K H p ys\/SqT K H p ys)/\∀ l,H l=none->Q (.ref l) (upd H l (.lst ys))
theorem mG (j:X.K=K:=by rfl):cx X (.type "list") (tV K):=j ▸ kh
noncomputable def qR (K:PySem.W.Frag):List V->Hp->VK->Prop:=λ xs H Q=>∃ p ys,xs=[.ref p]/\((SqL K H p ys/\∀ l,H l=none->Q (.ref l) (upd H l (.tup ys)))\/(SqT K H p ys/\Q (.ref p) H))
theorem mu (j:X.K=K:=by rfl):cx X (.type "tuple") (qR K):=j ▸ jq
theorem oT (q:X.A.units+64<cLine) (j:X.K=K:=by rfl):OpR X (compareOp .Eq) (um K false):=j ▸ vQ q
theorem oH (q:X.A.units+64<cLine) (j:X.K=K:=by rfl):OpR X (compareOp .NotEq) (um K true):=j ▸ we q
theorem dc (j:X.K=K:=by rfl):cx X (.builtin "isinstance") (wG K):=j ▸ mh
theorem ig (z:X.calm=true) (h:PGs X es u) (F:(assignEach es X.env).length=n:=by rfl) (j:(assignEach es X.env).findIdx? (·.1)=none:=by rfl) (q:X.K=K:=by rfl):PG X (.Tuple es k pos) (Ak K n u):=q ▸ v8 z h F j
noncomputable def Bd (K:PySem.W.Frag) (ta:TE):TT:=λ σ H Q=>ta σ H λ x H'=>∃ k,vz K x H' k/\Q k H'
theorem p7 (ha:PE X a ta) (he:∀ whole,isTrue a X.env whole=(do let v <- whole;standAt a.pos;holding [v] (truthy v))) (hK:X.K=K:=by rfl):PT X a (Bd K ta):=hK ▸ rm ha he
variable {T id:String}{r:V->List V->Hp->VK->Prop}
theorem nY (L:PlainAttrs T) (z:Slot T name id) (F:typeOf (.builtin id)=pure (.type "method_descriptor")) (I:MtR X id r) (J:PE X o to)
  (j:attributeBase o name X.env (eval o X.env)=eval o X.env:=by rfl) (q:(apos.endLine == cpos.line)=true:=by rfl) (G:X.K=K:=by rfl):PE X (.Call (.Attribute o name apos) [] [] cpos) (AE K T r to):=G ▸ wO L z F I J j q
theorem cF (R:PlainAttrs T) (G:Slot T name id) (I:typeOf (.builtin id)=pure (.type "method_descriptor")) (M:MtR X id r) (O:PE X o to) (L:PA X (e::es) t)
  (q:attributeBase o name X.env (eval o X.env)=eval o X.env:=by rfl)
  (F:((backTo cpos (starEach (e::es) X.env)).all (λ x=>!x.1) && (backToKw cpos (keywordEach [] X.env)).all (λ x=>x.1.isSome)
   && decide ((e::es).length+([]:List Keyword).length+(if ([]:List Keyword).isEmpty then 0 else 1)<30))=true:=by rfl)
  (z:(apos.endLine == cpos.line)=true:=by rfl) (hs:starEach (e::es) X.env=(false,eval e X.env)::starEach es X.env:=by rfl) (j:(backTo cpos (starEach es X.env)).any (·.1)=false:=by rfl) (J:X.K=K:=by rfl) :
  PE X (.Call (.Attribute o name apos) (e::es) [] cpos) (tBM K T r to t):=J ▸ yC R G I M O L q F z hs j
end
theorem cj {k:Bool}{A B:Prop}(h:k=false) (j:B):if k=true then A else B:=by rw[h];exact gy j
theorem f7 {k:Bool}{A B:Prop}(h:k=true) (j:A):if k=true then A else B:=by rw[h];exact dF j
theorem aL.new (h:H p=none):aL H (upd H p o):=λ b u e=>by rw[aE (aF e h)];exact e
theorem aL.tup {K:PySem.W.Frag}{H H':Hp}{a:Addr}{xs:List V}(e:aL H H') (h:SqT K H a xs):SqT K H' a xs:=by
 rcases h with (h|⟨o,h⟩)|h
 ·exact .inl (.inl (e _ _ h))
 ·exact .inl (.inr ⟨o,e _ _ h⟩)
 ·exact .inr h
mutual
theorem Rp.same {K:PySem.W.Frag}{H H':Hp}(e:aL H H'):∀ {v:V}{d:PyData},Rp K H v d->Rp K H' v d
 | _,_,.non=>.non
 | _,_,.bl b=>.bl b
 | _,_,.int i=>.int i
 | _,_,.str x=>.str x
 | _,_,.lst q a=>.lst (e.seq q) (bR.same e a)
 | _,_,.tup q a=>.tup (e.tup q) (bR.same e a)
theorem bR.same {K:PySem.W.Frag}{H H':Hp}(e:aL H H'):∀ {vs:List V}{ds:List PyData},bR K H vs ds->bR K H' vs ds
 | _,_,.nil=>.nil
 | _,_,.cons p ps=>.cons (p.same e) (bR.same e ps)
end
mutual
noncomputable def noDict:PyData->Bool
 | .none=>true
 | .bool _=>true
 | .int _=>true
 | .str _=>true
 | .list xs=>noDicts xs
 | .tuple xs=>noDicts xs
 | .dict _=>false
noncomputable def noDicts:List PyData->Bool
 | []=>true
 | x::xs=>noDict x && noDicts xs
end
mutual
theorem iH:∀ {d:PyData},noDict d=true->PyData.eqv d d=true
 | .none,_=>by simp[PyData.eqv]
 | .bool _,_=>by simp[PyData.eqv]
 | .int _,_=>by simp[PyData.eqv]
 | .str _,_=>by simp[PyData.eqv]
 | .list xs,h=>by rw[PyData.eqv];exact eV (by simpa [noDict] using h)
 | .tuple xs,h=>by rw[PyData.eqv];exact eV (by simpa [noDict] using h)
 | .dict _,h=>by simp[noDict] at h
theorem eV:∀ {ds:List PyData},noDicts ds=true->PyData.eqvAll ds ds=true
 | [],_=>by simp[PyData.eqvAll]
 | x::xs,h=>by
  rw[noDicts,CG] at h
  rw[PyData.eqvAll,iH h.1,eV h.2]
  rfl
end
theorem aL.ins (q:H x=none) (j:H dx=none):aL H (upd (upd H dx (.own x)) x o):=λ b u e=>by
 rw[aE (aF e q),aE (aF e j)];exact e
end L2
namespace SetT
open PySem PySem.SetTable
noncomputable def lcg (M x:Nat):Nat:=(x*5+1)%M
noncomputable def orb (M:Nat):Nat->Nat->Nat
 | 0,x=>x
 | n+1,x=>orb M n (lcg M x)
theorem hJ (M):∀ (a b x:Nat),orb M (a+b) x=orb M b (orb M a x)
 | 0,b,x=>by rw[C4];rfl
 | a+1,b,x=>by rw[Nat.add_right_comm];exact hJ M a b (lcg M x)
noncomputable def uj (M:Nat):Nat->Nat->List Nat
 | 0,_=>[]
 | n+1,x=>x::uj M n (lcg M x)
theorem lT:∀ {n x y:Nat},y∈uj M n x->∃ a,a<n/\orb M a x=y
 | 0,_,_,h=>by simp[uj] at h
 | n+1,x,y,h=>by
  rcases BF.mp h with rfl|h
  ·exact⟨0,by lia,rfl⟩
  ·obtain⟨a,j,e⟩:=lT h
   exact⟨a+1,by lia,e⟩
noncomputable def gL (M:Nat):Bool:=((List.range M).all λ y=>(uj M M 0).contains y) && orb M M 0 == 0
theorem cover (h:gL M=true) (J:x<M) (L:y<M):∃ n,n<M/\orb M n x=y:=by
 unfold gL at h
 rw[CG,Dy,Dc] at h
 obtain⟨all,q⟩:=h
 have j:∀ z,z<M->∃ a,a<M/\orb M a 0=z:=λ z O=>lT (by simpa using all z (Dz.mpr O))
 obtain⟨a,R,F⟩:=j x J
 obtain⟨b,S,G⟩:=j y L
 by_cases I:a<=b
 ·refine⟨b-a,by lia,?_⟩
  rw[<- F,<- hJ,show a+(b-a)=b by lia]
  exact G
 ·refine⟨b+M-a,by lia,?_⟩
  rw[<- F,<- hJ,show a+(b+M-a)=M+b by lia,hJ,q]
  exact G
inductive Pow:Nat->Prop
 | p8:Pow 8
 | p16:Pow 16
 | p32:Pow 32
 | p64:Pow 64
 | p128:Pow 128
 | p256:Pow 256
theorem Pow.round (h:Pow M):gL M=true:=by cases h<;>decide +kernel
theorem Pow.pos (h:Pow M):8<=M/\M<=256:=by cases h<;>decide
noncomputable def at_ (mask:Nat):Nat->Nat->Nat->Nat×Nat
 | 0,i,p=>(i,p)
 | s+1,i,p=>at_ mask s (leap mask i p).1 (leap mask i p).2
theorem sL (mask):∀ (a b i p:Nat),at_ mask (a+b) i p=at_ mask b (at_ mask a i p).1 (at_ mask a i p).2
 | 0,b,i,p=>by rw[C4];rfl
 | a+1,b,i,p=>by rw[Nat.add_right_comm];exact sL mask a b _ _
theorem oD (mask):∀ (s i p:Nat),(at_ mask s i p).2=p/32 ^ s
 | 0,i,p=>by simp[at_]
 | s+1,i,p=>by
  show (at_ mask s (leap mask i p).1 (leap mask i p).2).2=_
  rw[oD mask s]
  show p/32/32 ^ s=_
  rw[Nat.div_div_eq_div_mul,Nat.pow_succ,Nat.mul_comm]
theorem qW {mask:Nat}:∀ (s i:Nat),i<mask+1->(at_ mask s i 0).1=orb (mask+1) s i
 | 0,i,_=>rfl
 | s+1,i,h=>by
  show (at_ mask s (leap mask i 0).1 (leap mask i 0).2).1=_
  have e:leap mask i 0=(lcg (mask+1) i,0):=by
   unfold leap lcg
   simp
  rw[e]
  exact qW s _ (Fs _ (by lia))
theorem rd {mask:Nat}:∀ (s i p:Nat),i<mask+1->(at_ mask s i p).1<mask+1
 | 0,i,p,h=>h
 | s+1,i,p,h=>rd s _ _ (Fs _ (by lia))
theorem reach {mask i p f:Nat}(j:Pow (mask+1)) (hi:i<mask+1) (F:p<2 ^ 64) (q:f<mask+1):∃ s,s<turns mask/\(at_ mask s i p).1=f:=by
 obtain⟨n,G,e⟩:=cover j.round (rd 13 i p hi) q
 refine⟨13+n,by unfold turns;lia,?_⟩
 rw[sL]
 have z:(at_ mask 13 i p).2=0:=by
  rw[oD]
  exact Nat.div_eq_of_lt (BW F (by decide))
 rw[z,qW _ _ (rd 13 i p hi)]
 exact e
theorem jW {mask:Nat}{owner:Array (Option Nat)}:∀ {fuel i p:Nat},layClean.free mask owner fuel i p=none->∀ s,s<fuel->owner.getD (at_ mask s i p).1 (some 0)≠none
 | 0,_,_,_,s,j=>by lia
 | fuel+1,i,p,h,s,j=>by
  unfold layClean.free at h
  split at h
  ·cases h
  ·rename_i q
   cases s with
   | zero=>
    intro z
    have:=List.find?_eq_none.mp q 0 (Dz.mpr (by unfold runEnd;split<;>lia))
    rw[EG] at this
    have F:owner.getD i (some 0)=none:=z
    rw[F] at this
    exact this rfl
   | succ s=>exact jW (fuel:=fuel) h s (by lia)
theorem jy {mask:Nat}{owner:Array (Option Nat)}:∀ {fuel i p j:Nat},layClean.free mask owner fuel i p=some j->owner.getD j (some 0)=none
 | 0,_,_,_,h=>by simp[layClean.free] at h
 | fuel+1,i,p,j,h=>by
  unfold layClean.free at h
  split at h
  ·rename_i k q
   cases h
   have:=List.find?_some q
   simpa using this
  ·exact jy (fuel:=fuel) h
theorem tE {mask:Nat}{owner:Array (Option Nat)}{i p f:Nat}(F:Pow (mask+1)) (hi:i<mask+1) (I:p<2 ^ 64) (G:f<mask+1) (e:owner[f]? = some none):∃ j,layClean.free mask owner (turns mask) i p=some j/\owner[j]? = some none:=by
 cases q:layClean.free mask owner (turns mask) i p with
 | none=>
  obtain⟨s,J,es⟩:=reach F hi I G
  have:=jW q s J
  rw[es] at this
  exact absurd (by rw[D0,e];rfl) this
 | some j=>
  refine⟨j,rfl,?_⟩
  have:=jy q
  rw[D0] at this
  cases z:owner[j]? with
  | none=>rw[z] at this;cases this
  | some o=>rw[z] at this;rw[show o=none from this]
theorem sJ:∀ (l:List (Option Nat)) (j v:Nat),l[j]? = some none->((l.set j (some v)).filterMap id).Perm (v::l.filterMap id)
 | [],j,v,h=>by simp at h
 | x::l,0,v,h=>by
  have:x=none:=by simpa using h
  subst this
  simp
 | x::l,j+1,v,h=>by
  have q:=sJ l j v (by simpa using h)
  cases x with
  | none=>simpa using q
  | some y=>
   show (y::(l.set j (some v)).filterMap id).Perm (v::y::l.filterMap id)
   exact(q.cons y).trans (List.Perm.swap v y _)
theorem pj:∀ (l:List (Option Nat)),(l.filterMap id).length<l.length->∃ j,j<l.length/\l[j]? = some none
 | [],h=>by simp at h
 | none::l,_=>⟨0,by simp,rfl⟩
 | some y::l,h=>by
  obtain⟨j,q,e⟩:=pj l (by simpa using h)
  exact⟨j+1,by simpa using q,by simpa using e⟩
theorem kY {mask:Nat}(hM:Pow (mask+1)):∀ (hs:List Int) (owner:Array (Option Nat)) (k:Nat),owner.size=mask+1->(owner.toList.filterMap id).Perm (List.range k)->k+hs.length<=mask ->
  ∃ owner',hs.foldl (λ(acc:Option (Array (Option Nat)×Nat)) h=>do
    let (owner,k) <- acc
    let j <- layClean.free mask owner (turns mask) (bits h%(mask+1)) (bits h)
    pure (owner.setIfInBounds j (some k),k+1)) (some (owner,k))=some (owner',k+hs.length)/\owner'.size=mask+1/\(owner'.toList.filterMap id).Perm (List.range (k+hs.length))
 | [],owner,k,hs,hp,_=>⟨owner,rfl,hs,hp⟩
 | h::hs,owner,k,hsz,hp,hk=>by
  have hlen:(owner.toList.filterMap id).length<owner.toList.length:=by
   rw[hp.length_eq,Em,BP,hsz]
   simp only[Ci] at hk
   lia
  obtain⟨f,hf,ef⟩:=pj _ hlen
  obtain⟨j,ej,fj⟩:=tE (mask:=mask) (owner:=owner) (i:=bits h%(mask+1)) (p:=bits h) (f:=f) hM (Fs _ (by lia))
   (by unfold bits;have:=Cz h (b:=2 ^ 64) (by decide);have:=CM h (b:=2 ^ 64) (by decide);lia) (by rw[BP,hsz] at hf;exact hf) (by rw[<- Cj];exact ef)
  have step:(do
    let (owner,k) <- some (owner,k)
    let j <- layClean.free mask owner (turns mask) (bits h%(mask+1)) (bits h)
    pure (owner.setIfInBounds j (some k),k+1):Option (Array (Option Nat)×Nat))=some (owner.setIfInBounds j (some k),k+1):=by
   show (layClean.free mask owner (turns mask) (bits h%(mask+1)) (bits h)).bind _=_
   rw[ej]
   rfl
  rw[List.foldl_cons,step]
  have hp':((owner.setIfInBounds j (some k)).toList.filterMap id).Perm (List.range (k+1)):=by
   rw[Array.toList_setIfInBounds]
   refine(sJ _ j k (by rw[Cj];exact fj)).trans ?_
   rw[Ff]
   exact(hp.cons k).trans (List.perm_append_singleton k _).symm
  obtain⟨o',e',s',p'⟩:=kY hM hs (owner.setIfInBounds j (some k)) (k+1) (by rw[Array.size_setIfInBounds];exact hsz) hp' (by simp only[Ci] at hk;lia)
  refine⟨o',?_,s',?_⟩
  ·rw[e'];simp only[Ci];congr 2;lia
  ·rw[show k+(h::hs).length=k+1+hs.length by simp only[Ci];lia];exact p'
theorem lQ {mask:Nat}(j:Pow (mask+1)) {hs:Array Int}(F:hs.size<=mask):∃ owner,layClean mask hs=some owner/\owner.size=mask+1/\(owner.toList.filterMap id).Perm (List.range hs.size):=by
 have z:((Array.replicate (mask+1) (none:Option Nat)).toList.filterMap id).Perm (List.range 0):=by
  rw[Array.toList_replicate]
  have:∀ n,((List.replicate n (none:Option Nat)).filterMap id)=[]:=by
   intro n;induction n with
   | zero=>rfl
   | succ n q=>rw[List.replicate_succ];simpa using q
  rw[this]
  exact List.Perm.refl _
 obtain⟨o,e,s,p⟩:=kY j hs.toList (Array.replicate (mask+1) none) 0 (by simp) z (by rw[BP];lia)
 rw[C4,BP] at e p
 refine⟨o,?_,s,p⟩
 unfold layClean
 rw[<- Array.foldl_toList,e]
 rfl
structure fO (t:SetTable) (n:Nat):Prop where
 size:t.place.size=n
 up:t.place.toList.Pairwise (· < ·)
 clean:t.dummies = #[]
 few:n<=t.mask
theorem fO.fits (r:fO t n):t.fits n=true:=by
 unfold SetTable.fits fill
 rw[r.size,r.clean]
 simp[r.few]
theorem oz {mask finger moves:Nat}{led plain:Bool}(R:Pow (mask+1)) {hs:Array Int}(O:hs.size<=mask):∃ t F,laid mask finger moves led plain hs=some (t,F)/\fO t hs.size/\t.mask=mask/\t.led=led/\t.plain=plain/\F.toList.Perm (List.range hs.size):=by
 obtain⟨z,e,V,p⟩:=lQ R O
 have G:((List.range (mask+1)).filterMap λ j=>(z.getD j none).map (j,·)).map (·.2)=z.toList.filterMap id:=by
  rw[List.map_filterMap]
  have:(λ j=>((z.getD j none).map ((j:Nat),·)).map (·.2))=λ j=>id (z.getD j none):=by
   funext j
   cases z.getD j none<;>rfl
  rw[this]
  show List.filterMap (id ∘ λ j=>z.getD j none) _=_
  rw[<- List.filterMap_map]
  congr 1
  apply List.ext_getElem
  ·simp[V]
  ·intro i h1 h2
   simp[D0] 
   rw[Cb (by simpa using h2)]
   rfl
 have L:(((List.range (mask+1)).filterMap λ j=>(z.getD j none).map (j,·)).map (·.1)).Pairwise (· < ·):=by
  rw[List.map_filterMap,List.pairwise_filterMap]
  refine(List.pairwise_lt_range (n:=mask+1)).imp λ{a b} h x I y J=>?_
  have S:x=a:=by
   cases q:z.getD a none with
   | none=>rw[q] at I;cases I
   | some v=>rw[q] at I;exact(Option.some.inj I).symm
  have U:y=b:=by
   cases q:z.getD b none with
   | none=>rw[q] at J;cases J
   | some v=>rw[q] at J;exact(Option.some.inj J).symm
  rw[S,U];exact h
 have M:((List.range (mask+1)).filterMap λ j=>(z.getD j none).map (j,·)).length=hs.size:=by
  have:=congrArg List.length G
  rw[BB,p.length_eq,Em] at this
  exact this
 unfold laid
 rw[e]
 refine⟨_,_,rfl,⟨?_,?_,rfl,O⟩,rfl,rfl,rfl,?_⟩
 ·simpa using M
 ·simpa using L
 ·show (((List.range (mask+1)).filterMap λ j=>(z.getD j none).map (j,·)).map (·.2)).toArray.toList.Perm _
  rw[List.toList_toArray,G]
  exact p
theorem kC {xs:Array Nat}(h:xs.toList.Pairwise (· < ·)) {i k:Nat}{x y:Nat}(j:i<k) (hi:xs[i]? = some x) (q:xs[k]? = some y):x<y:=by
 rw[<- Cj] at hi q
 obtain⟨h1,z⟩:=BE.mp hi
 obtain⟨h2,F⟩:=BE.mp q
 have:=Dg.mp h i k h1 h2 j
 rw[z,F] at this
 exact this
theorem i5 {xs:Array Nat}(h:xs.toList.Pairwise (· < ·)) {j:Nat}:∀ (fuel lo hi:Nat),hi-lo<=fuel->lo<=hi->hi<=xs.size->(∀ i x,i<lo->xs[i]? = some x->x<j)->(∀ i x,hi<=i->xs[i]? = some x->j<=x) ->
  below.go xs j fuel lo hi<=xs.size/\(∀ i x,i<below.go xs j fuel lo hi->xs[i]? = some x->x<j)/\∀ i x,below.go xs j fuel lo hi<=i->xs[i]? = some x->j<=x
 | 0,lo,hi,hf,M,J,h1,h2=>by
  have e:lo=hi:=by lia
  subst e
  exact⟨J,h1,h2⟩
 | fuel+1,lo,hi,hf,M,J,h1,h2=>by
  unfold below.go
  by_cases G:lo<hi
  ·rw[BN G]
   have O:(lo+hi)/2<xs.size:=by lia
   have F:xs[(lo+hi)/2]? = some xs[(lo+hi)/2]:=Cb O
   have I:xs.getD ((lo+hi)/2) j=xs[(lo+hi)/2]:=by rw[D0,F];rfl
   by_cases z:xs.getD ((lo+hi)/2) j<j
   ·rw[BN z]
    refine i5 h fuel _ _ (by lia) (by lia) J (λ i x L e=>?_) h2
    by_cases q:i=(lo+hi)/2
    ·subst q;rw[F] at e;cases e;rw[I] at z;exact z
    ·have:=kC h (show i<(lo+hi)/2 by lia) e F
     rw[I] at z;lia
   ·rw[BI z]
    refine i5 h fuel _ _ (by lia) (by lia) (by lia) h1 λ i x L e=>?_
    by_cases q:i=(lo+hi)/2
    ·subst q;rw[F] at e;cases e;rw[I] at z;lia
    ·have:=kC h (show (lo+hi)/2<i by lia) F e
     rw[I] at z;lia
  ·rw[BI G]
   have e:lo=hi:=by lia
   subst e
   exact⟨J,h1,h2⟩
theorem d6 (h:xs.toList.Pairwise (· < ·)) (j):below xs j<=xs.size/\(∀ i x,i<below xs j->xs[i]? = some x->x<j)/\∀ i x,below xs j<=i->xs[i]? = some x->j<=x:=by
 unfold below
 exact i5 h xs.size 0 xs.size (by lia) (by lia) (by lia) (λ i x hi=>by lia) λ i x hi e=>by
  have:=(DA.mp e).1
  lia
theorem pX {t:SetTable}{n:Nat}(r:fO t n) {j:Nat}(J:j∈t.place.toList):t.slot j≠.empty:=by
 obtain⟨m,e⟩:=Es.mp J
 rw[Cj] at e
 obtain⟨M,G,I⟩:=d6 r.up j
 have q:t.place[below t.place j]? = some j:=by
  by_cases L:m<below t.place j
  ·have:=G m j L e;lia
  ·by_cases F:m=below t.place j
   ·rw[<- F];exact e
   ·have z:below t.place j<t.place.size:=by have:=(DA.mp e).1;lia
    have g:=Cb z
    have h1:=kC r.up (show below t.place j<m by lia) g e
    have h2:=I _ _ (Nat.le_refl _) g
    lia
 unfold slot
 simp[q]
theorem fk (r:fO t n) (h:t.slot j≠.empty):j∈t.place.toList/\∃ i,t.slot j=.live i:=by
 unfold slot at h ⊢
 dsimp only at h ⊢
 split at h
 ·rename_i q
  have z:t.place[below t.place j]? = some j:=by simpa using q
  rw[<- Cj] at z
  refine⟨BJ z,below t.place j,?_⟩
  rw[BN q]
 ·have:has t.dummies j=false:=by unfold has;rw[r.clean];simp
  rw[this] at h
  simp at h
theorem rj:∀ (n:Nat) (l:List Nat),(∀ f,f<n->f∈l)->n<=l.length
 | 0,_,_=>Cf _
 | n+1,l,h=>by
  have j:=h n (by lia)
  have q:=rj n (l.erase n) λ f z=>(List.mem_erase_of_ne (by lia)).mpr (h f (by lia))
  rw[List.length_erase_of_mem j] at q
  have:0<l.length:=List.length_pos_of_mem j
  lia
theorem nh (r:fO t n):∃ f,f<t.mask+1/\f∉t.place.toList:=by
 refine Classical.byContradiction λ z=>?_
 have all:∀ f,f<t.mask+1->f∈t.place.toList:=λ f j=>Classical.byContradiction λ q=>z ⟨f,j,q⟩
 have:=rj _ _ all
 rw[BP,r.size] at this
 have:=r.few
 lia
noncomputable def win (mask i pt:Nat):Probe:={ j:=i,more:=runEnd mask i-i,i:=i,perturb:=pt,dummy:=none }
theorem kA (mask i):runEnd mask i-i<=9:=by unfold runEnd;split<;>lia
theorem jS (r:fO t n):∀ (m fuel:Nat) (p:Probe),p.more=m->p.dummy=none->m<fuel->probe.go t (λ _=>h+1) h fuel p=none ->
  t.slot p.j≠.empty/\probe.go t (λ _=>h+1) h (fuel-(m+1)) (win t.mask (leap t.mask p.i p.perturb).1 (leap t.mask p.i p.perturb).2)=none:=by
 intro m
 induction m with
 | zero=>
  intro fuel p L G J q
  obtain⟨fuel,rfl⟩:∃ k,fuel=k+1:=⟨fuel-1,by lia⟩
  unfold probe.go at q
  by_cases z:t.slot p.j=.empty
  ·rw[z] at q;cases q
  ·refine⟨z,?_⟩
   obtain⟨_,i,F⟩:=fk r z
   rw[F] at q
   dsimp only at q
   rw[BI (by simp;lia)] at q
   have e:t.advance p=win t.mask (leap t.mask p.i p.perturb).1 (leap t.mask p.i p.perturb).2:=by
    unfold advance win
    rw[BI (by lia)]
    simp[G]
   rw[e] at q
   simpa using q
 | succ m M=>
  intro fuel p L G J q
  obtain⟨fuel,rfl⟩:∃ k,fuel=k+1:=⟨fuel-1,by lia⟩
  unfold probe.go at q
  by_cases z:t.slot p.j=.empty
  ·rw[z] at q;cases q
  ·refine⟨z,?_⟩
   obtain⟨_,i,F⟩:=fk r z
   rw[F] at q
   dsimp only at q
   rw[BI (by simp;lia)] at q
   have e:t.advance p={ p with j:=p.j+1,more:=p.more-1 }:=by
    unfold advance
    rw[BN (by lia)]
   rw[e] at q
   have:=(M fuel { p with j:=p.j+1,more:=p.more-1 } (by show p.more-1=m;lia) G (by lia) q).2
   have I:fuel+1-(m+1+1)=fuel-(m+1):=by lia
   rw[I]
   exact this
theorem jC (r:fO t n):∀ (s fuel i j:Nat),10*(s+1)<=fuel->probe.go t (λ _=>h+1) h fuel (win t.mask i j)=none->t.slot (at_ t.mask s i j).1≠.empty
 | 0,fuel,i,j,hf,q=>(jS r _ fuel (win t.mask i j) rfl rfl (by have:=kA t.mask i;show runEnd t.mask i-i<fuel;lia) q).1
 | s+1,fuel,i,j,hf,q=>by
  have h1:=(jS r _ fuel (win t.mask i j) rfl rfl (by have:=kA t.mask i;show runEnd t.mask i-i<fuel;lia) q).2
  exact jC r s _ _ _ (by have:=kA t.mask i;show 10*(s+1)<=fuel-(runEnd t.mask i-i+1);lia) h1
theorem gU (r:fO t n):∀ (fuel:Nat) (p:Probe) (m:Met),p.dummy=none->probe.go t (λ _=>h+1) h fuel p=some m->∃ j,m=.empty j none/\t.slot j=.empty
 | 0,p,m,_,q=>by simp[probe.go] at q
 | fuel+1,p,m,hd,q=>by
  unfold probe.go at q
  by_cases z:t.slot p.j=.empty
  ·rw[z] at q
   dsimp only at q
   cases q
   rw[hd]
   exact⟨p.j,rfl,z⟩
  ·obtain⟨_,i,F⟩:=fk r z
   rw[F] at q
   dsimp only at q
   rw[BI (by simp;lia)] at q
   refine gU r fuel _ m ?_ q
   unfold advance
   split<;>exact hd
theorem lV (r:fO t n) (F:Pow (t.mask+1)) (h):∃ j,t.freeSlot h=some (j,false)/\j∉t.place.toList:=by
 have G:bits h<2 ^ 64:=by unfold bits;have:=Cz h (b:=2 ^ 64) (by decide);have:=CM h (b:=2 ^ 64) (by decide);lia
 have st:t.probeStart h=win t.mask (bits h%(t.mask+1)) (bits h):=rfl
 unfold freeSlot probe
 rw[st]
 cases q:probe.go t (λ _=>h+1) h (10*turns t.mask) (win t.mask (bits h%(t.mask+1)) (bits h)) with
 | none=>
  obtain⟨f,I,L⟩:=nh r
  obtain⟨s,M,es⟩:=reach F (Fs (bits h) (show 0<t.mask+1 by lia)) G I
  have:=jC r s _ _ _ (by lia) q
  rw[es] at this
  exact absurd (fk r this).1 L
 | some m=>
  obtain⟨j,rfl,z⟩:=gU r _ _ m rfl q
  exact⟨j,rfl,λ J=>pX r J z⟩
theorem Pow.of (h:[8,16,32,64,128,256].contains n=true):Pow n:=by
 have:n=8\/n=16\/n=32\/n=64\/n=128\/n=256:=by simpa using h
 rcases this with rfl|rfl|rfl|rfl|rfl|rfl
 ·exact .p8
 ·exact .p16
 ·exact .p32
 ·exact .p64
 ·exact .p128
 ·exact .p256
theorem fY (h:n<256):Pow (sizeAbove n)/\n<sizeAbove n:=by
 have all:((List.range 256).all λ n=>[8,16,32,64,128,256].contains (sizeAbove n) && decide (n<sizeAbove n))=true:=by decide +kernel
 have:=Dy.mp all n (Dz.mpr h)
 rw[CG,C0] at this
 exact⟨Pow.of this.1,this.2⟩
structure Good (t:SetTable) (n:Nat):Prop where
 rise:fO t n
 pow:Pow (t.mask+1)
 plain:t.plain=true
 slack:n*5<t.mask*3
theorem Good.fits (g:Good t n):t.fits n=true:=g.rise.fits
theorem nz (f m) (led):Good (SetTable.fresh f m led) 0:=⟨⟨rfl,by simp[SetTable.fresh],rfl,by simp[SetTable.fresh]⟩,.p8,rfl,by simp[SetTable.fresh]⟩
theorem wH (r:fO t n) (O:j∉t.place.toList) (R:n+1<=t.mask) :
  fO (t.put j).1 (n+1)/\(t.put j).1.mask=t.mask/\(t.put j).1.plain=t.plain/\(t.put j).1.led=t.led:=by
 obtain⟨S,J,L⟩:=d6 r.up j
 have M:has t.dummies j=false:=by unfold has;rw[r.clean];simp
 refine⟨⟨?_,?_,?_,R⟩,rfl,rfl,rfl⟩
 ·show (insertAt t.place (below t.place j) j).size=n+1
  rw[<- BP,(insertAt_perm t.place (below t.place j) j).length_eq,DH,BL,BP,r.size]
  rfl
 ·show (insertAt t.place (below t.place j) j).toList.Pairwise (· < ·)
  rw[toList_insertAt]
  have F:∀ x,x∈t.place.toList.take (below t.place j)->x<j:=λ x G=>by
   obtain⟨i,e⟩:=Es.mp G
   have hi:i<below t.place j:=by
    have:=(BE.mp e).1
    rw[CB] at this
    lia
   rw[EW hi,Cj] at e
   exact J i x hi e
  have q:∀ x,x∈t.place.toList.drop (below t.place j)->j<x:=λ x G=>by
   obtain⟨i,e⟩:=Es.mp G
   rw[List.getElem?_drop,Cj] at e
   have h1:=L _ x (FK _ _) e
   have h2:j≠x:=λ z=>O (by rw[z];exact List.mem_of_mem_drop G)
   lia
  rw[Co]
  refine⟨r.up.sublist (FG _ _),?_,λ x G y I=>?_⟩
  ·rw[DR]
   exact⟨q,r.up.sublist (En _ _)⟩
  ·rcases BF.mp I with rfl|I
   ·exact F x G
   ·exact E9 (F x G) (q y I)
 ·show (if has t.dummies j then _ else t.dummies) = #[]
  rw[M]
  simpa using r.clean
theorem pY (g:Good t es.size) (h) (x) :
  ∃ es' t',layNew t es h x=(es',t',false,false)/\es'.toList.Perm (es.toList++[(h,x)])/\fO t' es'.size/\t'.mask=t.mask/\t'.plain=true/\t'.led=t.led:=by
 have I:es.size+1<=t.mask:=by have:=g.slack;have:=g.pow.pos;lia
 obtain⟨j,e,M⟩:=lV g.rise g.pow h
 obtain⟨F,L,O,J⟩:=wH g.rise M I
 have q:=layNew_perm t es h x
 rw[DH] at q
 unfold layNew at q ⊢
 rw[e] at q ⊢
 dsimp only at q ⊢
 have z:(insertAt es (t.put j).2 (h,x)).size=es.size+1:=by
  rw[<- BP,q.length_eq,BL,BP];rfl
 have G:(t.put j).1.fits (insertAt es (t.put j).2 (h,x)).size=true:=by rw[z];exact F.fits
 refine⟨_,(t.put j).1,?_,q,by rw[z];exact F,L,O.trans g.plain,J⟩
 unfold orStandIn
 rw[G]
 rfl
theorem sN {es:Array (Int×Value)}{j:Array Nat}(p:j.toList.Perm (List.range es.size)):(j.filterMap (es[·]?)).toList.Perm es.toList:=by
 rw[Array.toList_filterMap]
 refine(p.filterMap _).trans ?_
 rw[filterMap_getElem?_range]
theorem jr {t:SetTable}{es:Array (Int×Value)}{wanted:Nat}(F:wanted<256) (I:es.size<=wanted) (z:t.plain=true) :
  ∃ t' j,t.relaid (es.map (·.1)) wanted=some (t',j)/\fO t' es.size/\Pow (t'.mask+1)/\t'.plain=true/\t'.led=t.led/\wanted<=t'.mask/\t'.mask=sizeAbove wanted-1/\j.toList.Perm (List.range es.size):=by
 obtain⟨P,J⟩:=fY F
 have q:sizeAbove wanted-1+1=sizeAbove wanted:=by lia
 obtain⟨t',j,e,r,m,l,G,p⟩:=oz (mask:=sizeAbove wanted-1) (finger:=t.finger) (moves:=t.movedTo (sizeAbove wanted-1)) (led:=t.led) (plain:=t.plain) (by rw[q];exact P) (hs:=es.map (·.1)) (by rw[Ep];lia)
 rw[Ep] at r p
 exact⟨t',j,e,r,by rw[m,q];exact P,by rw[G,z],l,by rw[m];lia,m,p⟩
theorem k9 {t:SetTable}{es:Array (Int×Value)}{wanted:Nat}(I:wanted<256) (L:es.size*2<=wanted) (G:t.plain=true) (h0:0<es.size) :
  ∃ es' t',relayAll t es wanted=(es',t',false)/\es'.toList.Perm es.toList/\Good t' es'.size/\t'.led=t.led:=by
 obtain⟨t',j,e,r,P,J,l,M,_,p⟩:=jr (t:=t) (es:=es) I (by lia) G
 have q:=sN p
 have F:(j.filterMap (es[·]?)).size=es.size:=by rw[<- BP,q.length_eq,BP]
 have z:coversAll j es.size=true:=List.isPerm_iff.mpr p
 refine⟨j.filterMap (es[·]?),t',?_,q,⟨by rw[F];exact r,P,J,by rw[F];lia⟩,l⟩
 unfold relayAll
 rw[e]
 dsimp only
 rw[z,F,r.fits]
 rfl
noncomputable def ke (e:Int×Value):Int:=match e.2 with
 | .int i _=>i
 | _=>0
noncomputable def cw (P:Program) (w:World) (h:Heap) (a:Addr) (ks:List Int):Prop:=
 ∃ o es ep t,h.get? a=some o/\o.ExactSet/\o.data=.set es ep t/\ElemsOf (intKind P w) es.toList/\es.toList.map ke=ks/\ks.Nodup/\Good t es.size/\es.size<=63/\(w.params.followText "set-order" = true\/t.led=true)
section
variable {P:Program}{w:World}{A:Around}{E:Value->Shared->Prop}{s:Shared}{a:Addr}{ks:List Int}
theorem cw.few (S:cw P w h a ks):ks.length<=63:=by
 obtain⟨o,es,j,t,_,_,_,_,e,_,_,f,_⟩:=S
 rw[<- e,BB,BP];exact f
theorem cw.nodup (S:cw P w h a ks):ks.Nodup:=by obtain⟨o,es,j,t,_,_,_,_,e,n,_⟩:=S;exact n
theorem vv (h:ElemsOf (intKind P w) l) (J:e∈l) (k):(intKind P w).is k e.2=true↔ke e=k:=by
 obtain⟨⟨F,j,_⟩,_⟩:=h e J
 obtain⟨t,q⟩:=Value.isInt_shape (show Value.isInt F e.2=true from j)
 have I:ke e=F:=by unfold ke;rw[q]
 rw[I]
 constructor
 ·intro z
  obtain⟨M,G⟩:=Value.isInt_shape (show Value.isInt k e.2=true from z)
  rw[q] at G;injection G with L _
 ·rintro rfl;exact j
theorem sA (h:ElemsOf (intKind P w) l) (k):(∃ e∈l,(intKind P w).is k e.2=true)↔k∈l.map ke:=by
 rw[BV]
 exact⟨λ⟨e,j,q⟩=>⟨e,j,(vv h j k).mp q⟩,λ⟨e,j,q⟩=>⟨e,j,(vv h j k).mpr q⟩⟩
theorem stored (z:h.get? a=some o) (q:o.ExactSet) (j:o.data=.set es ep t) :
  (h.update a (Obj.putSet es' t')).get? a=some { o with data:=.set es' (ep+1) t' }/\Heap.SameBut a h (h.update a (Obj.putSet es' t')):=by
 refine⟨?_,Heap.SameBut.update h a _⟩
 have:=Heap.get?_update_self (Obj.putSet es' t') z (by rw[putSet_of es' t' j];rfl)
 rwa [putSet_of es' t' j] at this
theorem eA (h:n<=64):n<=sizeLine:=B6 h (by decide)
theorem qJ (S:cw P w s.heap a ks) (af:ks.length<=62)
  (h:∀ b h' a1,Heap.SameBut a s.heap h'->cw P w h' a a1->(∀ y,y∈a1↔y∈ks\/y=k)->a1.length<=ks.length+1->Q b { s with heap:=h' }) :
  wpAny (model P w) A (setAddHashed a (.int k tok) (hashInt k)) Q E s:=by
 obtain⟨o,es,ep,t,ho,Y,hd,L,O,nd,g,fw,aa⟩:=id S
 have ag:es.size=ks.length:=by rw[<- O,BB,BP]
 have U:(intKind P w).is k (.int k tok)=true:=by show Value.isInt k (.int k tok)=true;simp[Value.isInt]
 have hb:es.size<scanBound:=CQ fw (by decide)
 unfold setAddHashed setAddHashedIn
 refine CD (Bx (wpAny_setState_of ho hd g.fits ?_))
 dsimp only
 rw[byScan_of (knd:=intKind P w) rfl hb L]
 simp only[↓reduceIte]
 unfold setAddByScan
 refine Bx (Bx (Dk (Bx (wpAny_setScan_of (knd:=intKind P w) U ho hd g.fits L ?_))))
 cases hr:List.findIdx? (λ e=>(intKind P w).is k e.2) es.toList with
 | some j=>
  obtain⟨hj,a8,_⟩:=List.findIdx?_eq_some_iff_getElem.mp hr
  have a6:k∈ks:=by rw[<- O];exact(sA L k).mp ⟨_,List.getElem_mem hj,a8⟩
  refine BA (BA ?_)
  exact h false s.heap ks (Heap.SameBut.refl a s.heap) S (λ y=>⟨.inl,λ z=>z.elim id λ e=>e ▸ a6⟩) (D1 _)
 | none=>
  have a4:k∉ks:=λ z=>by
   rw[<- O] at z
   obtain⟨e,he,q⟩:=(sA L k).mpr z
   have:=List.findIdx?_eq_none_iff.mp hr e he
   rw[q] at this
   cases this
  obtain⟨F,t1,eL,M,J,m1,p1,l1⟩:=pY g (hashInt k) (.int k tok)
  rw[eL]
  dsimp only
  have ae:F.size=es.size+1:=by rw[<- BP,M.length_eq,BL,BP];rfl
  have a3:ElemsOf (intKind P w) F.toList:=(L.push (k:=k) U rfl).perm M
  have a9:(F.toList.map ke).Perm (ks++[k]):=by
   have:=M.map ke
   rw[B7,O] at this
   exact this
  have ab:(ks++[k]).Nodup:=by
   rw[Cq]
   refine⟨nd,by simp,λ x hx y hy=>?_⟩
   rw[BD] at hy
   subst hy
   intro z
   exact a4 (z ▸ hx)
  refine Bx (BA ?_)
  rw[p1]
  simp only[↓reduceIte]
  rw[hashByValue_scannable 8 (show (Value.int k tok).scannable=true from rfl)]
  refine Bx (BA ?_)
  simp only[plainKind,↓reduceIte]
  refine Bx (Fy ho hd ?_ (eA (by lia)))
  obtain⟨Z,a5⟩:=stored (es':=F) (t':=t1) ho Y hd
  have a2:∀ (G:Array (Int×Value)) (W:Nat) (V:SetTable) (h2:Heap),h2.get? a=some { o with data:=.set G W V }->Heap.SameBut a s.heap h2->G.toList.Perm F.toList->Good V G.size->V.led=t.led->Q true { s with heap:=h2 }:=by
   intro G W V h2 e2 sb p2 g2 l2
   have kp:(G.toList.map ke).Perm (ks++[k]):=(p2.map ke).trans a9
   refine h true h2 (G.toList.map ke) sb ⟨_,G,W,V,e2,Y,rfl,a3.perm p2,rfl,kp.nodup_iff.mpr ab,g2,?_,?_⟩ (λ y=>?_) ?_
   ·rw[<- BP,p2.length_eq,BP,ae];lia
   ·rw[l2];exact aa
   ·rw[kp.mem_iff,BH,BD]
   ·rw[kp.length_eq,BL];exact Nat.le_refl _
  by_cases R:t1.tooFull=true
  ·rw[R]
   simp only[Eo,Bool.and_self,↓reduceIte]
   have hg:grown F.size=F.size*4:=by unfold grown;rw[BI (by lia)]
   obtain⟨G,V,eR,p2,g2,l2⟩:=k9 (t:=t1) (es:=F) (wanted:=grown F.size) (by rw[hg];lia) (by rw[hg];lia) p1 (by lia)
   rw[eR]
   dsimp only
   refine Bx (BA (Bx (Fy Z rfl ?_ (eA ?_))))
   ·obtain⟨a7,ad⟩:=stored (es':=G) (t':=V) Z Y rfl
    exact BA (BA (a2 G _ V _ a7 (a5.trans ad) p2 g2 (l2.trans l1)))
   ·rw[<- BP,p2.length_eq,BP];lia
  ·have I:t1.tooFull=false:=by simpa using R
   rw[I]
   simp only[Eo,Bool.and_false,B0,↓reduceIte]
   refine BA (BA (a2 F _ t1 _ Z a5 (List.Perm.refl _) ⟨J,by rw[m1];exact g.pow,p1,?_⟩ l1))
   unfold tooFull fill at I
   rw[J.size,J.clean] at I
   simpa using I
end
section
variable {P:Program}{w:World}{A:Around}{E:Value->Shared->Prop}{s:Shared}{a:Addr}{ks:List Int}
theorem cw.at' (S:cw P w h a ks) (e:∀ o,h.get? a=some o->h'.get? a=some o):cw P w h' a ks:=by
 obtain⟨o,es,j,t,q,r⟩:=S
 exact⟨o,es,j,t,e o q,r⟩
theorem cw.lt (S:cw P w h a ks):a<h.objs.size:=by
 obtain⟨o,es,q,t,j,r⟩:=S
 exact Heap.lt_size j
theorem vL {R:Result->Shared->Prop}{I:Addr}{fp Z:List Addr}{G:Array GenState->Array GenState->Prop}{n:Nat}{Y:Nat->Value->Prop}{St:Nat->Shared->Prop}
  (W:WalksS P w A.in1 I fp Z G n Y St) (F:a∉fp) (val:Nat->Int) (O:∀ i v,Y i v->∃ t,v=.int (val i) t) :
  ∀ (k i:Nat) (s:Shared) (ks:List Int),i+k=n->St i s->cw P w s.heap a ks->ks.length+k<=63 ->
   (∀ s' M,Moved (a::Z) G s s'->cw P w s'.heap a M->(∀ y,y∈M↔y∈ks\/∃ j,i<=j/\j<n/\val j=y)->M.length<=ks.length+k->R (.ok (.ret .none)) s') ->
   codeAny (model P w) A (.builtin "set.update.loop" ⟨[.ref a,.ref I],[]⟩) R s:=by
 have V:a∉Z:=λ z=>F (W.sub _ z)
 have J:∀ b∈Z,b∈a::Z:=λ b z=>BQ _ z
 intro k
 induction k with
 | zero=>
  intro i s ks hk st S a1 L
  rw[EG] at hk
  subst hk
  refine CP PyProof.Rows.F.entry_set_update_loop ?_
  rw[Around.under_plainId D6 _]
  unfold Builtin.«set.update.loop»
  refine Bx (W.done s _ _ st λ s' U=>BA ?_)
  refine L s' ks (U.mono J) (S.at' λ o e=>U.heap a o V e) (λ y=>⟨.inl,?_⟩) (Nat.le_refl _)
  rintro(z|⟨j,h1,h2,_⟩)
  ·exact z
  ·lia
 | succ k ih=>
  intro i s ks hk st S a1 L
  refine CP PyProof.Rows.F.entry_set_update_loop ?_
  rw[Around.under_plainId D6 _]
  unfold Builtin.«set.update.loop»
  refine Bx (W.item i s _ _ (by lia) st λ v s1 hv a5 U=>?_)
  obtain⟨a6,rfl⟩:=O i v hv
  refine Bx (CD (CD (Bx ((intKind P w).pyHash (k:=val i) (intKind_is _ _ _ _) ?_))))
  refine qJ (s:={ s1 with toks:=s1.toks+1 }) (S.at' λ o e=>U.heap a o V e) (by lia) λ b h2 a2 sb S2 m2 l2=>?_
  refine BA ⟨Dm D6 _,ih (i+1) _ a2 (by lia) (W.frame _ s1 h2 _ a5 (D1 _) λ b hb o e=>?_) S2 (by lia) λ s3 a3 a4 S3 m3 l3=>?_⟩
  ·rw[sb.2 b λ z=>F (z ▸ hb)];exact e
  ·refine L s3 a3 (Moved.trans W.gtrans ((U.mono J).then_heap (D1 _) λ b o hb e=>?_) a4) S3 (λ y=>?_) (by lia)
   ·rw[sb.2 b λ z=>hb (z ▸ BR)];exact e
   ·rw[m3,m2]
    constructor
    ·rintro((z|z)|⟨j,h1,h2,e⟩)
     ·exact .inl z
     ·exact .inr ⟨i,Nat.le_refl _,by lia,z.symm⟩
     ·exact .inr ⟨j,by lia,h2,e⟩
    ·rintro(z|⟨j,h1,h2,e⟩)
     ·exact .inl (.inl z)
     ·by_cases q:j=i
      ·subst q;exact .inl (.inr e.symm)
      ·exact .inr ⟨j,by lia,h2,e⟩
theorem jR {Q:Value->Shared->Prop}
  (h:∀ led:Bool,(w.params.followText "set-order" = true\/led=true)->Q (.ref s.heap.objs.size) { s with heap:=s.heap.push { cls:=.type "set",dict:=none,data:=.set #[] 0 (.fresh 0 0 led) } }) :
  wpAny (model P w) A (newSet (.type "set")) Q E s:=by
 unfold newSet setsByText
 refine Bx (Bx ?_)
 refine Dw (BA ?_)
 dsimp only
 unfold newObj
 refine Bx (wpAny_alloc (BA (h _ ?_)))
 show w.params.followText "set-order" = true\/(!w.params.followText "set-order")=true
 cases w.params.followText "set-order" <;> simp
theorem rE (x:Value) {Q:Value->Shared->Prop}
  (h:∀ led:Bool,(w.params.followText "set-order" = true\/led=true)->Q (.ref s.heap.objs.size) { s with heap:=s.heap.push { cls:=.type "set",dict:=none,data:=.set #[] 0 (.fresh 0 0 led) } }) :
  codeAny (model P w) A (.call (.builtin "set.__new__") ⟨[.type "set",x],[]⟩) (wants Q E) s:=by
 refine codeAny_of_tree ?_
 show wpAny _ A.in1 (checkBuiltinCall _ _ >>= λ _=>again _) _ _ s
 refine Bx (CY (F.newCall_set_1 x) (BA ⟨Dm F.plain_set_new _,CP F.entry_set_new ?_⟩))
 rw[Around.under_plainId F.plain_set_new _]
 unfold Builtin.«set.__new__» Builtin.Frozenset.newClass
 have j:=FC
 generalize q:newSet=N
 obtain⟨G,g,d,tk,I⟩:=s
 dsimp only
 wp_walk
 subst q
 exact jR λ led z=>BA (h led z)
theorem mC {h:Heap}{a:Addr}{led:Bool}(e:h.get? a=some { cls:=.type "set",dict:=none,data:=.set #[] 0 (.fresh 0 0 led) }) (q:w.params.followText "set-order" = true\/led=true):cw P w h a []:=by
 refine⟨_,#[],0,_,e,?_,rfl,?_,rfl,El,nz 0 0 led,Cf _,q⟩
 ·exact⟨rfl,rfl,rfl⟩
 ·intro e j;cases j
theorem nA {l:Addr}{items:Array Value}{ns:List Int}{led:Bool}{R:Result->Shared->Prop}
  (hh:A.handled=none) (hl:s.heap.IsList l items) (hi:PyProof.Rows.IntsAre items.toList ns) (a4:items.size<=63) (U:a≠l)
  (ha:s.heap.get? a=some { cls:=.type "set",dict:=none,data:=.set #[] 0 (.fresh 0 0 led) }) (J:w.params.followText "set-order" = true\/led=true)
  (h:∀ (h':Heap) (tk:Nat) ks,cw P w h' a ks->(∀ y,y∈ks↔y∈ns) ->
   (∀ b o,b≠a->s.heap.get? b=some o->h'.get? b=some o)->R (.ok (.ret .none)) { s with heap:=h',toks:=tk }) :
  codeAny (model P w) A (.builtin "set.__init__" ⟨[.ref a,.ref l],[]⟩) R s:=by
 refine CP F.entry_set_init ?_
 rw[Around.under_plainId F.called_set.init.plain _]
 have S:cw P w s.heap a []:=mC ha J
 have I:=hl
 obtain⟨ol,V,q,nl,G⟩:=hl
 obtain⟨a3,Z,Y,M⟩:=ol
 simp only at q G
 subst q;subst G
 have u1:=F.sub_list_set
 have u2:=F.sub_list_frozenset
 have u3:(Value.type "list" == Value.type "dict")=false:=by decide
 unfold Builtin.«set.__init__» noKeywords Builtin.Frozenset.updateFrom
 generalize O:pyIter=PI
 wp_walk
 subst O
 refine FA I ?_
 refine Bx (FT ?_)
 have q3:A.in1.in1.handled=none:=by simp[hh]
 have la:a<s.heap.objs.size:=Heap.lt_size ha
 have ll:l<s.heap.objs.size:=Heap.lt_size V
 refine vL (a:=a) ((Walks.list q3 s.heap.objs.size l (BU ll) items).toS) (by simp only[BF,BM,Ca,DW];exact⟨BU la,U⟩)
  (λ i=>ns.getD i 0) (λ i v hv=>PyProof.Rows.IntsAre.int_at hi i v (by rw[Cj];exact hv)) items.size 0 _ [] (C4 _)
  ⟨⟨_,Heap.get?_push_size _ rfl,rfl,rfl⟩,I.push _⟩ (S.at' λ o e=>Heap.get?_push_of_some _ e) (by rw[List.length_nil];lia) ?_
 intro s' W L S' m' _
 obtain⟨h',g',d',a2,a1⟩:=s'
 obtain rfl:g'=s.gens:=L.gens
 obtain rfl:d'=s.drawn:=L.drawn
 obtain rfl:a1=s.os:=L.os
 refine BA (BA ?_)
 refine h h' a2 W S' (λ y=>?_) λ b o hb e=>L.heap b o ?_ (Heap.get?_push_of_some _ e)
 ·have a5:items.size=ns.length:=by rw[<- BP];exact PyProof.Rows.IntsAre.length hi
  rw[m']
  constructor
  ·rintro(z|⟨j,_,h2,e⟩)
   ·cases z
   ·rw[<- e]
    show ns.getD j 0∈ns
    rw[EN,Bz (by lia)];exact List.getElem_mem _
  ·intro z
   obtain⟨j,hj,e⟩:=B2 z
   exact .inr ⟨j,Cf _,by lia,by show ns.getD j 0=y;rw[EN,Bz hj];exact e⟩
 ·simp only[BF,BM,Ca,DW]
  exact⟨hb,BU (Heap.lt_size e)⟩
set_option maxHeartbeats 3200000 in
theorem nM {l:Addr}{items:Array Value}{ns:List Int}{Q:Value->Shared->Prop}
  (hh:A.handled=none) (hl:s.heap.IsList l items) (hi:PyProof.Rows.IntsAre items.toList ns) (few:items.size<=63)
  (h:∀ (h':Heap) (tk:Nat) ks,cw P w h' s.heap.objs.size ks->(∀ y,y∈ks↔y∈ns) ->
   (∀ b o,s.heap.get? b=some o->h'.get? b=some o)->Q (.ref s.heap.objs.size) { s with heap:=h',toks:=tk }) :
  wpAny (model P w) A (call (.type "set") [.ref l]) Q E s:=by
 obtain⟨c,tl,hmro⟩:=F.called_set.mro
 have u1:=F.called_set.made
 have u2:=F.called_set.sub
 have u3:=F.called_set.notType
 have u4:=F.called_set.canCreate
 have u5:=F.typeCall_set_1 (.ref l)
 refine EJ (codeAny_of_tree ?_)
 show wpAny _ _ (callAny (.type "set") _) _ _ _
 refine BA ⟨Code.quiet_builtin _ (by decide +kernel),CP F.entry_type_call ?_⟩
 rw[Around.under_plain (weight_type_call_type "set" [.ref l] []) rfl]
 repeat (any_goals (first|assumption|wp_step))
 refine EF (rE (.ref l) (E:=E) (Q:=λ v s1=>∃ led:Bool,(w.params.followText "set-order" = true\/led=true)/\v=.ref s.heap.objs.size/\s1={ s with heap:=s.heap.push { cls:=.type "set",dict:=none,data:=.set #[] 0 (.fresh 0 0 led) } }) λ led q=>⟨led,q,rfl,rfl⟩) λ r s1 hr=>?_
 match r,hr with
 | .error e,hr=>exact hr
 | .ok (.ret v),hr=>
  obtain⟨led,q,rfl,rfl⟩:=hr
  have new:(s.heap.push { cls:=.type "set",dict:=none,data:=.set #[] 0 (.fresh 0 0 led) }).get? s.heap.objs.size=some { cls:=.type "set",dict:=none,data:=.set #[] 0 (.fresh 0 0 led) }:=Heap.get?_push_size _ rfl
  have ty:Shared.TypeIs { s with heap:=s.heap.push { cls:=.type "set",dict:=none,data:=.set #[] 0 (.fresh 0 0 led) } } (.ref s.heap.objs.size) "set":=⟨_,new,rfl⟩
  have u6:=F.called_set.init.lookup
  have u7:=F.called_set.init.bind (.ref s.heap.objs.size)
  repeat (any_goals (first|assumption|wp_step))
  refine codeAny_call_builtin_code (Dm F.called_set.init.plain _) (check_set_init_1 ty ?_)
  refine nA (a:=s.heap.objs.size) (items:=items) (ns:=ns) (led:=led) (by simp[hh]) (hl.push _) hi few (C5 ?_) new q λ h' tk ks S m keep=>?_
  ·obtain⟨ol,hol,_⟩:=hl;exact Heap.lt_size hol
  ·refine BA (BA (h h' tk ks S m λ b o e=>keep b o (BU (Heap.lt_size e)) (Heap.get?_push_of_some _ e)))
end
theorem jv (next:Nat->Nat):∀ (n k:Nat) (l:List α) (out:Array α),n=l.length->(pickOrder.go next n k l out).toList.Perm (out.toList++l)
 | 0,k,l,out,h=>by
  have:l=[]:=Ex h.symm
  subst this
  unfold pickOrder.go;simp
 | n+1,k,l,out,h=>by
  have j:next k%l.length<l.length:=Fs _ (by lia)
  unfold pickOrder.go
  rw[Bz j]
  dsimp only
  refine(jv next n (k+1) _ _ (by rw[List.length_eraseIdx];simp[j];lia)).trans ?_
  rw[DH,CI]
  refine Et _ ?_
  rw[List.eraseIdx_eq_take_drop_succ]
  have e:l=l.take (next k%l.length)++l[next k%l.length]::l.drop (next k%l.length+1):=by
   rw[<- ES j,Dh]
  refine List.Perm.trans ?_ (List.Perm.of_eq e.symm)
  rw[List.singleton_append]
  exact List.perm_middle.symm
theorem eI (next:Nat->Nat) (xs:Array α):(pickOrder next xs).toList.Perm xs.toList:=by
 unfold pickOrder
 simpa using jv next xs.size 0 xs.toList #[] (by simp)
section
variable {P:Program}{w:World}{A:Around}{E:Value->Shared->Prop}{s:Shared}{a b:Addr}{ks:List Int}
noncomputable def cz (P:Program) (w:World) (h:Heap) (a:Addr) (ks:List Int) (es:Array (Int×Value)) (ep:Nat) (t:SetTable):Prop:=
 ∃ o,h.get? a=some o/\o.ExactSet/\o.data=.set es ep t/\ElemsOf (intKind P w) es.toList/\es.toList.map ke=ks/\ks.Nodup/\Good t es.size/\es.size<=63/\(w.params.followText "set-order" = true\/t.led=true)
theorem cw.tab (S:cw P w h a ks):∃ es ep t,cz P w h a ks es ep t:=by
 obtain⟨o,es,ep,t,r⟩:=S;exact⟨es,ep,t,o,r⟩
theorem cz.lL (S:cz P w h a ks es ep t):cw P w h a ks:=by
 obtain⟨o,r⟩:=S;exact⟨o,es,ep,t,r⟩
theorem cz.size (S:cz P w h a ks es ep t):es.size=ks.length:=by
 obtain⟨o,_,_,_,_,e,_⟩:=S;rw[<- e,BB,BP]
theorem cz.good (S:cz P w h a ks es ep t):Good t es.size:=by
 obtain⟨o,_,_,_,_,_,_,g,_⟩:=S;exact g
theorem cz.at' (S:cz P w h a ks es ep t) (e:∀ o,h.get? a=some o->h'.get? a=some o):cz P w h' a ks es ep t:=by
 obtain⟨o,j,r⟩:=S
 exact⟨o,e o j,r⟩
theorem cz.state (S:cz P w s.heap a ks es ep t) (h:Q (es,ep,t) s):wpAny (model P w) A (setState a) Q E s:=by
 obtain⟨o,q,_,j,_,_,_,g,_⟩:=S
 exact wpAny_setState_of q j g.fits h
theorem cz.store (S:cz P w s.heap a ks es ep t)
  (z:ElemsOf (intKind P w) es2.toList) (J:(es2.toList.map ke).Nodup) (g:Good t2 es2.size) (q:es2.size<=63) (led:w.params.followText "set-order" = true\/t2.led=true)
  (h:∀ h' ,Heap.SameBut a s.heap h'->cz P w h' a (es2.toList.map ke) es2 (ep+1) t2->Q () { s with heap:=h' }) :
  wpAny (model P w) A (storeSet a es2 t2) Q E s:=by
 obtain⟨o,I,j,G,_⟩:=S
 refine Fy I G ?_ (eA (by lia))
 obtain⟨F,L⟩:=stored (es':=es2) (t':=t2) I j G
 exact h _ L ⟨_,F,j,rfl,z,rfl,J,g,q,led⟩
theorem sF (S:cz P w s.heap a ks es ep t) (R:wanted<256) (hn:ks.length*2<=wanted) (h0:0<wanted)
  (h:∀ h' F es' I t',Heap.SameBut a s.heap h'->cz P w h' a F es' I t'->F.Perm ks->wanted<=t'.mask->Q () { s with heap:=h' }) :
  wpAny (model P w) A (setRelay a wanted) Q E s:=by
 have sz:=S.size
 unfold setRelay
 refine Bx (S.state ?_)
 dsimp only
 obtain⟨o,ho,W,hd,L,M,Z,g,J,O⟩:=id S
 obtain⟨t',j,e,r,pw,pl,l,Y,hm,p⟩:=jr (t:=t) (es:=es) R (by lia) g.plain
 have G:¬ (sizeAbove wanted>sizeLine):=by
  have h1:=(fY R).1.pos.2
  have h2:256<=sizeLine:=by decide
  lia
 rw[BI G]
 have q:=sN p
 have z:(j.filterMap (es[·]?)).size=es.size:=by rw[<- BP,q.length_eq,BP]
 rw[e]
 have U:((j.filterMap (es[·]?)).toList.map ke).Perm ks:=by have:=q.map ke;rwa [M] at this
 refine Bx (CY (a:=(j.filterMap (es[·]?),t')) ?_ ?_)
 ·show (if ((j.filterMap (es[·]?)).size != es.size)=true then (unsupported "internal:set-table-lost-an-element" >>= λ _=>pure (j.filterMap (es[·]?),t')) else pure (j.filterMap (es[·]?),t'):Sem _)=_
  rw[z]
  simp
 ·dsimp only
  refine S.store (L.perm q) (U.nodup_iff.mpr Z) ⟨by rw[z];exact r,pw,pl,by rw[z];lia⟩ (by rw[z];exact J) (by rw[l];exact O) λ h' sb V=>?_
  exact h h' _ _ _ _ sb V U Y
theorem sV (S:cw P w s.heap a ks) (L:ks.length+more<=126) (h0:0<more)
  (h:∀ h' j es' q t',Heap.SameBut a s.heap h'->cz P w h' a j es' q t'->j.Perm ks->(ks.length+more)*5<t'.mask*3->Q () { s with heap:=h' }) :
  wpAny (model P w) A (setRoomFor a more) Q E s:=by
 obtain⟨es,G,t,S⟩:=S.tab
 have z:=S.size
 have g:=S.good
 have I:t.fill=ks.length:=by unfold fill;rw[g.rise.size,g.rise.clean,z];rfl
 unfold setRoomFor
 refine Bx (S.state ?_)
 dsimp only
 unfold roomFor
 rw[I,g.rise.size,z]
 by_cases c:(ks.length+more)*5 >= t.mask*3
 ·rw[BN c]
  dsimp only
  exact sF S (by lia) (by lia) (by lia) λ h' j es' q t' J F p M=>h h' j es' q t' J F p (by lia)
 ·rw[BI c]
  dsimp only
  exact BA (h s.heap ks es G t (Heap.SameBut.refl _ _) S (List.Perm.refl _) (by lia))
theorem uw (S:cz P w s.heap a ks es ep t)
  (h:∀ xs:Array (Int×Value),xs.toList.Perm es.toList->Q xs s):wpAny (model P w) A (setWalk a) Q E s:=by
 obtain⟨o,M,G,L,F,I,O,g,z,j⟩:=id S
 unfold setWalk setsByText
 refine Bx (S.state ?_)
 dsimp only
 refine Bx (Bx (Dw (BA ?_)))
 dsimp only
 split
 ·exact Bx (Dw (BA (h _ (eI _ _))))
 ·next c=>
  have J:t.led=true:=j.resolve_left c
  split
  ·next d=>
   have q:(!t.plain && decide (es.size>1))=true:=d
   rw[g.plain] at q
   cases q
  ·refine Bx (CY (a:=()) ?_ (BA (h es (List.Perm.refl _))))
   show (if (!t.led && decide (es.size>1))=true then unsupported "set:maker-not-led" else pure ():Sem Unit)=_
   rw[J]
   rfl
theorem qV (S:cz P w s.heap a ks es ep t)
  (h:∀ xs:Array (Int×Value),xs.toList.Perm es.toList->Q xs s):wpAny (model P w) A (setWalkUnseen a others f) Q E s:=by
 obtain⟨o,L,G,J,F,I,M,g,z,j⟩:=id S
 unfold setWalkUnseen setsByText
 refine Bx (S.state ?_)
 dsimp only
 refine Bx (Bx (Dw (BA ?_)))
 dsimp only
 split
 ·exact uw S h
 ·next c=>
  exfalso
  apply c
  have q:((model P w).w.params.followText "set-order" || (t.led && t.plain))=true:=by
   rw[g.plain,Bool.and_true,FQ];exact j
  rw[q];rfl
theorem lX {kb U:List Int}{eb:Array (Int×Value)}{epb:Nat}{tb:SetTable}{each:Sem Unit}{Q:Unit->Shared->Prop}(ne:a≠b) (Sa:cw P w s.heap a ks) (Sb:cz P w s.heap b kb eb epb tb)
  (few:U.length<=62) (sub1:∀ y∈ks,y∈U) (sub2:∀ y∈kb,y∈U)
  (heach:∀ h' (Q:Unit->Shared->Prop),cz P w h' b kb eb epb tb->Q () { s with heap:=h' }->wpAny (model P w) A each Q E { s with heap:=h' })
  (h:∀ h' ks',Heap.SameBut a s.heap h'->cw P w h' a ks'->(∀ y,y∈ks'↔y∈ks\/y∈kb)->Q () { s with heap:=h' }) :
  wpAny (model P w) A (setMerge a b each) Q E s:=by
 have szb:=Sb.size
 obtain⟨ob,hob,hexb,hdb,helb,hkb,ndb,gb,fewb,ledb⟩:=id Sb
 have l1:ks.length<=62:=B6 (Ew Sa.nodup sub1) few
 have l2:kb.length<=62:=B6 (Ew ndb sub2) few
 unfold setMerge
 rw[BI (show ¬ ((a == b)=true) by simpa using ne)]
 refine Bx (Sb.state ?_)
 dsimp only
 by_cases em:eb.isEmpty=true
 ·rw[BN em]
  have:kb=[]:=Ex (by rw[<- szb];simpa [Array.isEmpty] using em)
  exact BA (h s.heap ks (Heap.SameBut.refl _ _) Sa λ y=>by rw[this];simp)
 ·rw[BI em]
  have pos:0<eb.size:=by
   rcases Nat.eq_zero_or_pos eb.size with z|z
   ·exact absurd (by simp[Array.isEmpty,z]) em
   ·exact z
  refine Bx (sV Sa (by lia) pos λ h1 ks1 es1 ep1 t1 sb1 S1 p1 sl=>?_)
  have Sb1:cz P w h1 b kb eb epb tb:=Sb.at' λ o e=>by rw[sb1.2 b (Ne.symm ne)];exact e
  refine Bx (S1.state ?_)
  dsimp only
  have sz1:=S1.size
  have g1:=S1.good
  have hf:t1.fill=ks1.length:=by unfold fill;rw[g1.rise.size,g1.rise.clean,sz1];rfl
  obtain⟨o1,ho1,hex1,hd1,hel1,hks1,nd1,_,few1,led1⟩:=id S1
  have ledm:w.params.followText "set-order" = true\/(t1.led && tb.led)=true:=by
   rcases led1 with z|z
   ·exact .inl z
   rcases ledb with y|y
   ·exact .inl y
   ·exact .inr (by rw[z,y];rfl)
  have plm:(t1.plain && tb.plain)=true:=by rw[g1.plain,gb.plain];rfl
  have none1:t1.fill=0->∀ y,y∈kb↔y∈ks\/y∈kb:=λ z y=>by
   have:ks1=[]:=Ex (by rw[<- hf];exact z)
   have:ks=[]:=by rw[this] at p1;exact p1.symm.eq_nil
   rw[this];simp
  unfold road
  by_cases f0:t1.fill=0
  ·rw[f0]
   simp only[FF,B0,↓reduceIte]
   by_cases same:(t1.mask == tb.mask && tb.dummies.isEmpty)=true
   ·rw[BN same]
    dsimp only
    refine S1.store helb (by rw[hkb];exact ndb) ⟨⟨gb.rise.size,gb.rise.up,gb.rise.clean,gb.rise.few⟩,gb.pow,plm,gb.slack⟩ fewb ledm λ h2 sb2 S2=>?_
    rw[hkb] at S2
    exact h h2 kb (sb1.trans sb2) S2.lL (none1 f0)
   ·rw[BI same]
    dsimp only
    have sl':eb.size*5<t1.mask*3:=by lia
    obtain⟨t',order,e,r,m,l,pl,p⟩:=oz (mask:=t1.mask) (finger:=t1.finger) (moves:=t1.moves) (led:=t1.led && tb.led) (plain:=t1.plain && tb.plain) g1.pow (hs:=eb.map (·.1)) (by rw[Ep];lia)
    rw[Ep] at r p
    rw[e]
    have q:=sN p
    have sz2:(order.filterMap (eb[·]?)).size=eb.size:=by rw[<- BP,q.length_eq,BP]
    have kp:((order.filterMap (eb[·]?)).toList.map ke).Perm kb:=by have:=q.map ke;rwa [hkb] at this
    refine Bx (CY (a:=(order.filterMap (eb[·]?),t')) ?_ ?_)
    ·show (if ((order.filterMap (eb[·]?)).size != eb.size)=true then (unsupported "internal:set-table-lost-an-element" >>= λ _=>pure (order.filterMap (eb[·]?),t')) else pure (order.filterMap (eb[·]?),t'):Sem _)=_
     rw[sz2]
     simp
    ·dsimp only
     refine S1.store (helb.perm q) (kp.nodup_iff.mpr ndb) ⟨by rw[sz2];exact r,by rw[m];exact g1.pow,by rw[pl];exact plm,by rw[sz2,m];exact sl'⟩ (by rw[sz2];exact fewb) (by rw[l];exact ledm) λ h2 sb2 S2=>?_
     exact h h2 _ (sb1.trans sb2) S2.lL λ y=>by rw[kp.mem_iff];exact none1 f0 y
  ·rw[BN (by simpa using f0)]
   dsimp only
   refine Bx (qV Sb1 λ xs px=>?_)
   have helx:ElemsOf (intKind P w) xs.toList:=helb.perm px
   have memx:∀ y,y∈xs.toList.map ke↔y∈kb:=λ y=>by rw[<- hkb];exact(px.map ke).mem_iff
   refine Bx (MeetsSeq2.wpAny_forIn_array _ (λ rest _ s'=>∃ h2 ks2,s'={ s with heap:=h2 }/\Heap.SameBut a s.heap h2/\cw P w h2 a ks2/\(∀ y∈ks2,y∈ks\/y∈kb)/\(∀ y∈ks,y∈ks2)/\(∀ y∈kb,y∈ks2\/y∈rest.map ke)/\ElemsOf (intKind P w) rest/\∀ y∈rest.map ke,y∈kb) _ ?_ ?_ xs _ ⟨h1,ks1,rfl,sb1,S1.lL,λ y z=>.inl (p1.mem_iff.mp z),λ y z=>p1.mem_iff.mpr z,λ y z=>.inr ((memx y).mpr z),helx,λ y z=>(memx y).mp z⟩)
   ·rintro⟨hx,x⟩ rest _ s' ⟨h2,ks2,rfl,sb2,S2,m1,m2,m3,er,mr⟩
    obtain⟨⟨k,hk,hh⟩,_⟩:=er (hx,x) BR
    obtain⟨tok,q⟩:=Value.isInt_shape (show Value.isInt k x=true from hk)
    have hh':hx=hashInt k:=hh
    subst q;subst hh'
    have kk:ke (hashInt k,Value.int k tok)=k:=rfl
    have kin:k∈kb:=mr k (by rw[Ce,kk];exact BR)
    have lk:ks2.length<=62:=B6 (Ew S2.nodup λ y z=>(m1 y z).elim (sub1 y) (sub2 y)) few
    refine Bx (CD (qJ S2 lk λ _ h3 ks3 sb3 S3 m _=>?_))
    have Sb3:cz P w h3 b kb eb epb tb:=Sb.at' λ o e=>by rw[sb3.2 b (Ne.symm ne),sb2.2 b (Ne.symm ne)];exact e
    refine Bx (heach h3 _ Sb3 (Bx (Sb3.state ?_)))
    dsimp only
    rw[BI (by simp)]
    refine BA ⟨h3,ks3,rfl,sb2.trans sb3,S3,λ y z=>?_,λ y z=>(m y).mpr (.inl (m2 y z)),λ y z=>?_,λ e he=>er e (BQ _ he),λ y z=>mr y (by rw[Ce];exact BQ _ z)⟩
    ·rcases (m y).mp z with z|rfl
     ·exact m1 y z
     ·exact .inr kin
    ·rcases m3 y z with z|z
     ·exact .inl ((m y).mpr (.inl z))
     ·rw[Ce,kk] at z
      rcases BF.mp z with rfl|z
      ·exact .inl ((m y).mpr (.inr rfl))
      ·exact .inr z
   ·rintro _ s' ⟨h2,ks2,rfl,sb2,S2,m1,m2,m3,_,_⟩
    refine BA (h h2 ks2 sb2 S2 λ y=>⟨m1 y,λ z=>z.elim (m2 y) λ z=>(m3 y z).elim id λ z=>by cases z⟩)
end
section
variable {P:Program}{w:World}{A:Around}{E:Value->Shared->Prop}{s:Shared}{a b:Addr}{ks:List Int}
theorem cw.typeIs (S:cw P w s.heap a ks):s.TypeIs (.ref a) "set":=by
 obtain⟨o,es,z,t,q,j,r⟩:=S
 exact⟨o,q,j.1⟩
theorem qA:entryFor table "set.__or__" = some Builtin.«frozenset.__or__» :=
 FV (id':="frozenset.__or__") (by kernel_rfl) rfl (by decide +kernel) (by kernel_rfl)
theorem gD (T:s.TypeIs (.ref a) "set") (h:Q true s):wpAny (model P w) A (Builtin.Frozenset.isAnySet (.ref a)) Q E s:=by
 unfold Builtin.Frozenset.isAnySet orM
 refine Bx (Dv T FC ?_)
 exact BA h
theorem uk (T:s.TypeIs (.ref a) "set") (h:Q (.type "set") s):wpAny (model P w) A (Builtin.Frozenset.baseOf a) Q E s:=by
 unfold Builtin.Frozenset.baseOf
 refine Bx (Dv T FC ?_)
 exact BA h
theorem iW (S:cz P w s.heap a ks es ep t) (h:Q ep s):wpAny (model P w) A (setEpoch a) Q E s:=by
 unfold setEpoch
 exact Bx (S.state (BA h))
theorem Ba {V R U:List Int}{Q:Value->Shared->Prop}(G:cw P w s.heap a V) (I:cw P w s.heap b R) (ne:a≠b)
  (L:U.length<=62) (q:∀ y∈V,y∈U) (O:∀ y∈R,y∈U)
  (h:∀ h' M,cw P w h' s.heap.objs.size M->(∀ y,y∈M↔y∈V\/y∈R)->(∀ c o,s.heap.get? c=some o->h'.get? c=some o)->Q (.ref s.heap.objs.size) { s with heap:=h' }) :
  wpAny (model P w) A (binaryOp .BitOr (.ref a) (.ref b)) Q E s:=by
 refine wpAny_binaryOp_same G.typeIs I.typeIs F.fills_set_or F.slot_set_or (CU F.slot_set_or G.typeIs qA ?_ (F.args_set_or_2 _ _))
 show wpAny _ A.in1 (Builtin.Frozenset.slot1 "__or__" _ >>= _) _ _ _
 refine Bx ?_
 unfold Builtin.Frozenset.slot1
 refine Bx (CY (a:=(.ref a,[.ref b])) rfl (BA ?_))
 dsimp only
 simp only[B0,↓reduceIte]
 unfold andM
 refine Bx (Bx (gD G.typeIs (gD I.typeIs ?_)))
 simp only[Du,B0,↓reduceIte]
 refine Bx (BA (Bx ?_))
 show wpAny _ A.in1 (Builtin.Frozenset.copyOf a >>= _) _ _ _
 refine Bx ?_
 unfold Builtin.Frozenset.copyOf
 refine Bx (uk G.typeIs (Bx (jR λ W hl=>?_)))
 refine Bx (BA ?_)
 have na:a≠s.heap.objs.size:=BU G.lt
 have nb:b≠s.heap.objs.size:=BU I.lt
 obtain⟨ea,a3,ta,Ta⟩:=G.tab
 obtain⟨eb,S,tb,Tb⟩:=I.tab
 have Z:cw P w (s.heap.push { cls:=.type "set",dict:=none,data:=.set #[] 0 (.fresh 0 0 W) }) s.heap.objs.size []:=mC (Heap.get?_push_size _ rfl) hl
 refine Bx (lX (Ne.symm na) Z (Ta.at' λ o e=>Heap.get?_push_of_some _ e) L (λ y z=>by cases z) q (λ h' Q _ z=>BA z) λ h1 k1 a1 S1 m1=>?_)
 refine BA ?_
 dsimp only
 have Y:(Value.ref b != Value.ref a)=true:=by simpa using Ne.symm ne
 rw[BN Y]
 have j:∀ c o,s.heap.get? c=some o->h1.get? c=some o:=λ c o e=>by
  rw[a1.2 c (BU (Heap.lt_size e))];exact Heap.get?_push_of_some _ e
 refine Bx (BA (Bx (CD ?_)))
 unfold Builtin.Frozenset.updateFrom
 refine Bx (gD (I.at' (j b)).typeIs ?_)
 simp only[↓reduceIte]
 refine Bx (BA ?_)
 unfold Builtin.Frozenset.merge
 have J:cz P w h1 b R eb S tb:=Tb.at' (j b)
 refine Bx (iW J ?_)
 refine lX (s:={ s with heap:=h1 }) (Ne.symm nb) S1 J L (λ y z=>(m1 y).mp z |>.elim (λ z=>by cases z) (q y)) O (λ h' Q T z=>?_) λ h2 k2 a2 S2 m2=>?_
 ·unfold Builtin.Frozenset.unchanged
  refine Bx (iW T ?_)
  rw[BI (by simp)]
  exact BA z
 ·refine BA (BA ⟨_,rfl,by simp,h h2 k2 S2 (λ y=>?_) λ c o e=>?_⟩)
  ·rw[m2,m1];simp
  ·rw[a2.2 c (BU (Heap.lt_size e))];exact j c o e
end
theorem fe:Slot "set_iterator" "__next__" "set_iterator.__next__" :=
 .of (owner:="set_iterator") (n:="__next__") (by rw[typeLookup_type,builtinLookup_eq_fast];kernel_rfl) (by decide +kernel) (by decide +kernel) (by decide +kernel)
  (by first|exact .inl (by decide +kernel)|exact .inr (by decide +kernel)) (by rw[FU];kernel_rfl)
theorem lN:entryFor table "set_iterator.__next__" = some Builtin.«set_iterator.__next__»:=entryFor_of_fast (by kernel_rfl)
theorem oQ (a):argsOk "set_iterator.__next__" ⟨[a],[]⟩:=by unfold argsOk;kernel_rfl
theorem sr:entryFor table "set.__iter__" = some Builtin.«frozenset.__iter__» :=
 FV (id':="frozenset.__iter__") (by kernel_rfl) rfl (by decide +kernel) (by kernel_rfl)
theorem mO (h:xs.toList.Pairwise (· < ·)) (e:xs[i]? = some j):below xs (j+1)=i+1:=by
 obtain⟨L,F,G⟩:=d6 h (j+1)
 have hi:=(DA.mp e).1
 have h1:¬ below xs (j+1)<=i:=λ z=>by have:=G i j z e;lia
 have h2:¬ i+1<below xs (j+1):=λ z=>by
  have q:i+1<xs.size:=by lia
  have J:xs[i+1]? = some xs[i+1]:=Cb q
  have M:=F (i+1) _ z J
  have I:xs[i]=j:=(DA.mp e).2
  have:=Dg.mp h i (i+1) (by simpa using hi) (by simpa using q) (D4 _)
  rw[Array.getElem_toList,Array.getElem_toList,I] at this
  lia
 lia
theorem nK (h:xs.toList.Pairwise (· < ·)):below xs 0=0:=by
 obtain⟨q,j,F⟩:=d6 h 0
 rcases Nat.eq_zero_or_pos (below xs 0) with z|z
 ·exact z
 ·have:0<xs.size:=by lia
  have:=j 0 _ z (Cb this)
  lia
noncomputable def bC (w:World) (a:Addr) (ep:Nat) (es:Array (Int×Value)):Array (Int×Value):=if w.params.followText "set-order" = true then pickOrder (w.params.setOrder a ep) es else es
theorem eU (w) (a) (ep) (es:Array (Int×Value)):(bC w a ep es).toList.Perm es.toList:=by
 unfold bC
 split
 ·exact eI _ _
 ·exact List.Perm.refl _
theorem dy (w) (a) (ep) (es:Array (Int×Value)):(bC w a ep es).size=es.size:=by
 rw[<- BP,(eU w a ep es).length_eq,BP]
section
variable {P:Program}{w:World}{A:Around}{E:Value->Shared->Prop}{s:Shared}{a I:Addr}{ks:List Int}{es:Array (Int×Value)}{ep:Nat}{t:SetTable}
noncomputable def eJ (w:World) (t:SetTable) (h:Heap) (I a:Addr) (i n ep:Nat):Prop:=∃ o slot,h.get? I=some o/\o.cls=.type "set_iterator" /\ o.data=.fields #[.int (slot:Nat) 0,.int i 0,.ref a,.int n 0,.int ep 0]/\(w.params.followText "set-order" = true\/below t.place slot=i)
theorem eJ.typeIs (x:eJ w t s.heap I a i n ep):s.TypeIs (.ref I) "set_iterator":=by
 obtain⟨o,_,q,j,_⟩:=x;exact⟨o,q,j⟩
theorem sH (S:cz P w s.heap a ks es ep t) (j:w.params.followText "set-order" = true)
  (h:Q (bC w a ep es) s):wpAny (model P w) A (setWalk a) Q E s:=by
 unfold setWalk setsByText
 refine Bx (S.state ?_)
 dsimp only
 refine Bx (Bx (Dw (BA ?_)))
 dsimp only
 unfold bC at h
 rw[BN j] at h
 split
 ·exact Bx (Dw (BA h))
 ·next c=>exact absurd j c
theorem iz {j i:Nat}{Q:Option (Value×Nat)->Shared->Prop}(S:cz P w s.heap a ks es ep t) (J:w.params.followText "set-order" = true\/below t.place j=i)
  (hs:∀ e z,(bC w a ep es)[i]? = some e->(w.params.followText "set-order" = true\/below t.place z=i+1)->Q (some (e.2,z)) s)
  (G:(bC w a ep es)[i]? = none->Q none s):wpAny (model P w) A (setNext a j i ep) Q E s:=by
 obtain⟨os,a2,Z,W,Y,a1,nd,g,V,L⟩:=id S
 unfold setNext setsByText
 refine Bx (S.state ?_)
 dsimp only
 refine Bx (Bx (Dw (BA ?_)))
 dsimp only
 split
 ·next c=>
  rw[BI (by simp)]
  refine Bx (sH S c (BA ?_))
  cases q:(bC w a ep es)[i]? with
  | none=>exact G q
  | some e=>exact hs e j q (.inl c)
 ·next c=>
  have hl:t.led=true:=L.resolve_left c
  have hi:below t.place j=i:=J.resolve_left c
  have wo:bC w a ep es=es:=by unfold bC;exact BI c
  split
  ·next d=>
   have O:(!t.plain && decide (es.size>1))=true:=d
   rw[g.plain] at O
   cases O
  ·refine Bx (CY (a:=()) ?_ (BA ?_))
   ·show (if (!t.led && !es.isEmpty)=true then unsupported "set:maker-not-led" else pure ():Sem Unit)=_
    rw[hl]
    rfl
   ·rw[hi]
    rw[wo] at hs G
    by_cases U:i<es.size
    ·have M:i<t.place.size:=by rw[g.rise.size];exact U
     have F:es[i]? = some es[i]:=Cb U
     have R:t.place[i]? = some t.place[i]:=Cb M
     rw[F,R]
     exact hs es[i] (t.place[i]+1) F (.inr (mO g.rise.up R))
    ·have F:es[i]? = none:=CW (by lia)
     rw[F]
     exact G F
theorem next_item {i:Nat}{e:Int×Value}{Q:Option Value->Shared->Prop}(V:eJ w t s.heap I a i es.size ep) (S:cz P w s.heap a ks es ep t) (U:(bC w a ep es)[i]? = some e)
  (h:∀ h',Heap.SameBut I s.heap h'->eJ w t h' I a (i+1) es.size ep->Q (some e.2) { s with heap:=h' }):wpAny (model P w) A (pyNext (.ref I)) Q E s:=by
 have T:=V.typeIs
 obtain⟨o,W,M,hc,J,R⟩:=V
 obtain⟨os,a5,a3,a1,a2,a4,nd,g,Z,a6⟩:=id S
 unfold pyNext
 refine Bx (D8 (Ee (name:=Str.ofString "__next__") T fe (CU fe T lN ?_ (oQ _))))
 unfold Builtin.«set_iterator.__next__»
 refine Bx (CY (a:=(.ref I,[])) rfl ?_)
 refine Bx (Fn M J ?_)
 dsimp only
 unfold setEntries
 refine Bx (Bx (S.state (BA ?_)))
 dsimp only
 rw[BI (by simp)]
 simp only[Cg]
 refine Bx (iz S R (λ Y j q G=>?_) λ q=>?_)
 ·rw[U] at q
  obtain rfl:e=Y:=Option.some.inj q
  dsimp only
  refine Bx (EI M J (by simp) ?_)
  have F:=Heap.get?_update_self (Obj.mapFields (·.setIfInBounds 0 (rawInt j))) M (Obj.isFreed_of_fields (Obj.data_mapFields J _))
  have z:=Obj.data_mapFields J (·.setIfInBounds 0 (rawInt j))
  refine Bx (EI F z (by simp) ?_)
  have O:=Heap.get?_update_self (Obj.mapFields (·.setIfInBounds 1 (rawInt ((i:Int)+1)))) F (Obj.isFreed_of_fields (Obj.data_mapFields z _))
  have L:=Obj.data_mapFields z (·.setIfInBounds 1 (rawInt ((i:Int)+1)))
  refine BA ⟨_,rfl,BA (h _ ((Heap.SameBut.update ..).trans (Heap.SameBut.update ..)) ⟨_,j,O,?_,?_,G⟩)⟩
  ·rw[Obj.cls_mapFields,Obj.cls_mapFields];exact hc
  ·rw[L];simp[rawInt]
 ·rw[U] at q;cases q
theorem next_end {i:Nat}{Q:Option Value->Shared->Prop}(R:A.handled=none) (L:eJ w t s.heap I a i es.size ep) (S:cz P w s.heap a ks es ep t) (O:(bC w a ep es)[i]? = none)
  (h:∀ h',Heap.ExtBut I s.heap h'->Q none { s with heap:=h' }):wpAny (model P w) A (pyNext (.ref I)) Q E s:=by
 have T:=L.typeIs
 obtain⟨o,M,G,V,F,j⟩:=L
 unfold pyNext
 refine Bx (D8 (Ee (name:=Str.ofString "__next__") T fe (CU fe T lN ?_ (oQ _))))
 unfold Builtin.«set_iterator.__next__»
 refine Bx (CY (a:=(.ref I,[])) rfl ?_)
 refine Bx (Fn G F ?_)
 dsimp only
 unfold setEntries
 refine Bx (Bx (S.state (BA ?_)))
 dsimp only
 rw[BI (by simp)]
 simp only[Cg]
 refine Bx (iz S j (λ U z q J=>?_) λ q=>?_)
 ·rw[O] at q;cases q
 ·dsimp only
  refine Bx (EI G F (by simp) ?_)
  refine Bx ?_
  simp only[newExc,newTuple]
  refine Bx (Dp ?_ (by size_fits))
  refine Bx (m:=firstArgMember _ _) (CY (a:=Value.none) (by first|rfl|(simp only[firstArgMember];rfl)) ?_)
  refine Dp ?_ (by size_fits)
  simp only[raiseNew]
  refine Bx (wpAny_handled ?_)
  rw[show A.in1.handled=none from R]
  refine Bx (BA (wpAny_throw ?_))
  refine Bx (Dv (T:="StopIteration") (b:=true) ⟨_,Heap.get?_push_size _ rfl,rfl⟩ isSubtype_stop ?_)
  exact BA (h _ (((Heap.SameBut.update ..).extBut.push _).push _))
theorem uc (S:cz P w s.heap a ks es ep t)
  (h:∀ o,eJ w t (s.heap.push o) s.heap.objs.size a 0 es.size ep->Q (.ref s.heap.objs.size) { s with heap:=s.heap.push o }):wpAny (model P w) A (pyIter (.ref a)) Q E s:=by
 obtain⟨V,O,L,G,J,M,U,g,z,R⟩:=id S
 have T:s.TypeIs (.ref a) "set":=S.lL.typeIs
 refine Fz T F.slot_set_iter (CU F.slot_set_iter T sr ?_ (F.args_set_iter_1 _))
 unfold Builtin.«frozenset.__iter__» Builtin.Frozenset.slot0
 refine Bx (Bx (CY (a:=(.ref a,[])) rfl (BA ?_)))
 unfold Builtin.Frozenset.sizeOf setEntries
 refine Bx (Bx (Bx (S.state (BA (BA ?_)))))
 unfold setDrawn setsByText
 refine Bx (Bx (S.state ?_))
 dsimp only
 refine Bx (Bx (Dw (BA (BA ?_))))
 have j:(!(model P w).w.params.followText "set-order" && (!t.plain && decide (es.size>1)))=false:=by rw[g.plain];simp
 split
 ·next c=>
  have q:(!(model P w).w.params.followText "set-order" && (!t.plain && decide (es.size>1)))=true:=c
  rw[j] at q;cases q
 ·refine Bx (BA (Bx (iW S ?_)))
  unfold newFields
  refine Bx (Dp (BA ⟨_,rfl,"set_iterator",_,⟨_,Heap.get?_push_size _ rfl,rfl⟩,fe.lookup,h _ ⟨_,0,Heap.get?_push_size _ rfl,rfl,rfl,.inr (nK g.rise.up)⟩⟩))
theorem oO:Slot "set_iterator" "__iter__" "set_iterator.__iter__" :=
 .of (owner:="set_iterator") (n:="__iter__") (by rw[typeLookup_type,builtinLookup_eq_fast];kernel_rfl) (by decide +kernel) (by decide +kernel) (by decide +kernel)
  (by first|exact .inl (by decide +kernel)|exact .inr (by decide +kernel)) (by rw[FU];kernel_rfl)
theorem sR:entryFor table "set_iterator.__iter__" = some Builtin.«dict_keyiterator.__iter__» :=
 FV (id':="dict_keyiterator.__iter__") (by kernel_rfl) rfl (by decide +kernel) (by kernel_rfl)
theorem tW (a):argsOk "set_iterator.__iter__" ⟨[a],[]⟩:=by unfold argsOk;kernel_rfl
theorem mz (j:eJ w t s.heap I a i n ep) (h:Q (.ref I) s):wpAny (model P w) A (pyIter (.ref I)) Q E s:=by
 have T:=j.typeIs
 refine Fz T oO (CU oO T sR ?_ (tW _))
 unfold Builtin.«dict_keyiterator.__iter__»
 exact Bx (CY (a:=(.ref I,[])) rfl (BA ⟨_,rfl,"set_iterator",_,T,fe.lookup,h⟩))
theorem eJ.at' (x:eJ w t h I a i n ep) (e:∀ o,h.get? I=some o->h'.get? I=some o):eJ w t h' I a i n ep:=by
 obtain⟨o,j,q,r⟩:=x;exact⟨o,j,e o q,r⟩
theorem qi (M:A.handled=none) (R:a≠I):Walks P w A I [I,a] [I] es.size (λ i v=>∃ e,(bC w a ep es)[i]? = some e/\v=e.2) (λ i h=>eJ w t h I a i es.size ep/\cz P w h a ks es ep t) where
 sub:=λ b j=>by simp at j;simp[j]
 frame:=λ i h h' st J=>⟨st.1.at' λ o e=>J I (by simp) o e,st.2.at' λ o e=>J a (by simp) o e⟩
 item:=λ i s Q E hi st q=>by
  have O:i<(bC w a ep es).size:=by rw[dy];exact hi
  have G:(bC w a ep es)[i]? = some (bC w a ep es)[i]:=Cb O
  refine next_item st.1 st.2 G λ h' L F=>?_
  exact q _ h' s.toks ⟨_,G,rfl⟩ ⟨F,st.2.at' λ o e=>by rw[L.2 a R];exact e⟩ λ b o j e=>by rw[L.2 b (λ z=>j (by simp[z]))];exact e
 done:=λ s Q E st q=>by
  refine next_end M st.1 st.2 (CW (by rw[dy];exact Nat.le_refl _)) λ h' ex=>?_
  exact q h' s.toks λ b o j e=>ex b o (λ z=>j (by simp[z])) e
 self:=λ i s Q E st q=>mz st.1 q
theorem oE:∀ {l:List (Int×Value)},ElemsOf (intKind P w) l->PyProof.Rows.IntsAre (l.map (·.2)) (l.map ke)
 | [],_=>.nil
 | e::l,h=>by
  obtain⟨⟨k,F,_⟩,_⟩:=h e BR
  obtain⟨j,q⟩:=Value.isInt_shape (show Value.isInt k e.2=true from F)
  obtain⟨x,v⟩:=e
  subst q
  exact .cons k j (oE λ e z=>h e (BQ _ z))
theorem q9 {xs:Array (Int×Value)}{acc:Array Value}(h:ItemsOf (λ i v=>∃ e,xs[i]? = some e/\v=e.2) acc xs.size):acc.toList=xs.toList.map (·.2):=by
 refine DG λ i=>?_
 rw[BC,Cj,Cj]
 by_cases q:i<acc.size
 ·have j:=Cb q
  obtain⟨e,z,F⟩:=h.2 i _ j
  rw[j,z,F];rfl
 ·rw[CW (by lia),CW (by have:=h.1;lia)];rfl
theorem mE {Q:List Value->Shared->Prop}(hh:A.handled=none) (S:cw P w s.heap a ks)
  (h:∀ (vs:List Value) (ns:List Int) h' tk,PyProof.Rows.IntsAre vs ns->ns.Perm ks->(∀ b o,s.heap.get? b=some o->h'.get? b=some o)->Q vs { s with heap:=h',toks:=tk }) :
  wpAny (model P w) A (collect (.ref a)) Q E s:=by
 obtain⟨es,ep,t,S⟩:=S.tab
 have la:a<s.heap.objs.size:=S.lL.lt
 have ne:s.heap.objs.size≠a:=C5 la
 unfold collect
 refine Bx (FT (CP F.entry_proto_collect ?_))
 rw[Around.under_plainId F.plain_proto_collect _]
 unfold Builtin.«proto.collect»
 refine Bx (EV ?_)
 refine BA ⟨Dm F.plain_list_iadd _,CP F.entry_list_iadd ?_⟩
 rw[Around.under_plainId F.plain_list_iadd _]
 unfold Builtin.«list.__iadd__»
 refine Bx (CY (a:=(.ref s.heap.objs.size,[.ref a])) rfl ?_)
 dsimp only
 unfold Builtin.List.listExtendWith
 have V:=S.at' (h':=s.heap.push { cls:=.type "list",data:=.seq ([]:List Value).toArray }) λ o e=>Heap.get?_push_of_some _ e
 have T1:Shared.TypeIs { s with heap:=s.heap.push { cls:=.type "list",data:=.seq ([]:List Value).toArray } } (.ref a) "set":=V.lL.typeIs (s:={ s with heap:=s.heap.push { cls:=.type "list",data:=.seq ([]:List Value).toArray } })
 refine Bx (E6 T1 ?_)
 have h1:Builtin.List.listSameRef (.ref s.heap.objs.size) (.ref a)=false:=by simp[Builtin.List.listSameRef,ne]
 have h2:(Value.type "set" == Value.type "list")=false:=by decide
 have h3:(Value.type "set" == Value.type "tuple")=false:=by decide
 simp only[h1,h2,h3,Bool.or_false,B0,CJ]
 refine Bx (uc V λ J it=>?_)
 refine Bx (CD ?_)
 unfold Builtin.List.listLengthHint
 have W:=V.at' (h':=(s.heap.push { cls:=.type "list",data:=.seq ([]:List Value).toArray }).push J) λ o e=>Heap.get?_push_of_some _ e
 have R:Shared.TypeIs { s with heap:=(s.heap.push { cls:=.type "list",data:=.seq ([]:List Value).toArray }).push J } (.ref a) "set":=W.lL.typeIs (s:={ s with heap:=(s.heap.push { cls:=.type "list",data:=.seq ([]:List Value).toArray }).push J })
 refine Bx (EA R F.slot_set_len.lookup ?_)
 wp_delta
 refine Bx (Dv R FC ?_)
 show wpAny _ A.in1 (typeOf (Value.ref a) >>= _) _ _ _
 refine Bx (E6 R (BA ?_))
 rw[BN (by decide)]
 refine Bx (Dk ?_)
 generalize hH:s.heap.push { cls:=.type "list",data:=.seq ([]:List Value).toArray }=H at it W R ⊢
 have M:H.objs.size=s.heap.objs.size+1:=by rw[<- hH,Heap.size_push]
 have j:(H.push J).get? s.heap.objs.size=some { cls:=.type "list",data:=.seq ([]:List Value).toArray }:=Heap.get?_push_of_some _ (hH ▸ Heap.get?_push_size _ rfl)
 show wpAny _ A.in1 (Builtin.List.listTouch (.ref s.heap.objs.size) >>= _) _ _ _
 refine Bx ?_
 show wpAny _ A.in1 (updateSeq s.heap.objs.size (·.push .none) >>= λ _=>updateSeq s.heap.objs.size (·.pop)) _ _ _
 refine Bx (DS j rfl ?_)
 have q:=Heap.get?_update_self (Obj.mapSeq (·.push Value.none)) j rfl
 refine DS q rfl ?_
 have z:=Heap.get?_update_self (Obj.mapSeq (·.pop)) q rfl
 have G:∀ b o,b≠s.heap.objs.size->(H.push J).get? b=some o->(((H.push J).update s.heap.objs.size (Obj.mapSeq (·.push Value.none))).update s.heap.objs.size (Obj.mapSeq (·.pop))).get? b=some o:=
  λ b o hb e=>(Heap.get?_update_other _ _ (Ne.symm hb)).trans ((Heap.get?_update_other _ _ (Ne.symm hb)).trans e)
 have nI:s.heap.objs.size≠H.objs.size:=by lia
 have a2:s.heap.objs.size∉[H.objs.size,a]:=by simp only[BF,BM,Ca,DW];exact⟨nI,ne⟩
 have Z:es.size<=sizeLine:=eA (by have:=S.lL.few;have:=S.size;lia)
 refine BA ⟨Dm F.plain_extend_loop _,codeAny_extend_loopS (qi (A:=A.in1) (ks:=ks) (t:=t) (es:=es) (ep:=ep) hh (I:=H.objs.size) (BU (by rw[M];exact Dd la))).toS Z _ a2 _ es.size 0 _ _ _ rfl (Cf _)
  ⟨it.at' λ o e=>G _ o (Ne.symm nI) e,W.at' λ o e=>G _ o (Ne.symm ne) e⟩ z (ItemsOf.nil _) λ s' L c' U a1 O=>?_⟩
 obtain⟨h',g',d',a6,a5⟩:=s'
 obtain rfl:g'=s.gens:=U.gens
 obtain rfl:d'=s.drawn:=U.drawn
 obtain rfl:a5=s.os:=U.os
 show wpAny _ A (load s.heap.objs.size >>= _) _ _ _
 refine Bx (wpAny_load a1 (BA ?_))
 obtain⟨_,_,_,_,a3,a4,_⟩:=S
 have Y:L.toList=(bC w a ep es).toList.map (·.2):=q9 (by rw[dy];exact O)
 have p:=eU w a ep es
 refine h _ ((bC w a ep es).toList.map ke) h' a6 (by rw[Y];exact oE (a3.perm p)) (by rw[<- a4];exact p.map ke) λ b o e=>U.heap b o ?_ (G b o (BU (Heap.lt_size e)) (Heap.get?_push_of_some _ (hH ▸ Heap.get?_push_of_some _ e)))
 have:=Heap.lt_size e
 simp only[BF,BM,Ca,DW]
 exact⟨BU this,BU (by show b<H.objs.size;rw[M];exact Dd this)⟩
theorem mR {Q:Fin->Shared->Prop}{vs:List Value}{ns:List Int}(hI:PyProof.Rows.IntsAre vs ns) (h64:vs.length<64)
  (h:∀ (out:Array Value) (ns':List Int) h' c,(∀ b o,s.heap.get? b=some o->h'.get? b=some o)->h'.get? s.heap.objs.size=some { cls:=.type "list",dict:=none,data:=.seq out c,slots:=#[] }->PyProof.Rows.IntsAre out.toList ns'->ns'.Perm ns->ns'.Pairwise (· <= ·) ->
   Q (.done (.ret (.ref s.heap.objs.size))) { s with heap:=h' }) :
  wpAny (model P w) A (do let l <- newList vs;let _ <- holding [l] (call (.builtin "list.sort") [l] []);ret l) Q E s:=by
 refine Bx (EV ?_ (eA (DF h64)))
 have hoL:(s.heap.push (PyProof.Rows.seqObj "list" vs.toArray 0)).get? s.heap.objs.size=some (PyProof.Rows.seqObj "list" vs.toArray 0):=Heap.get?_push_size _ rfl
 refine Bx (CD (CU PyProof.Rows.slot_list_sort ⟨_,hoL,rfl⟩ PyProof.Rows.entry_list_sort (PyProof.Rows.list_sort_tree hoL hI h64 λ out ns' a1 a2 a3=>⟨_,rfl,?_⟩) (PyProof.Rows.args_list_sort _)))
 obtain⟨e,he⟩:=PyProof.Rows.sortedHeap_at (out:=out) hoL
 refine BA (h out ns' _ e (λ b o q=>?_) he a1 a2 a3)
 have lt:=Heap.lt_size q
 show (PyProof.Rows.sortedHeap (s.heap.push (PyProof.Rows.seqObj "list" vs.toArray 0)) s.heap.objs.size vs out).get? b=some o
 rw[PyProof.Rows.sortedHeap_old (BU lt) (by rw[Heap.size_push];exact Dd lt)]
 exact Heap.get?_push_of_some _ q
theorem qe {Q:Value->Shared->Prop}{x:Value}
  (hc:wpAny (model P w) A.in1 (collect x) (λ vs s1=>∃ ns,PyProof.Rows.IntsAre vs ns/\vs.length<64 /\
   ∀ (out:Array Value) (ns':List Int) h' c,(∀ b o,s1.heap.get? b=some o->h'.get? b=some o)->h'.get? s1.heap.objs.size=some { cls:=.type "list",dict:=none,data:=.seq out c,slots:=#[] }->PyProof.Rows.IntsAre out.toList ns'->ns'.Perm ns->ns'.Pairwise (· <= ·) ->
    Q (.ref s1.heap.objs.size) { s1 with heap:=h' }) E s) :
  wpAny (model P w) A (call (.builtin "sorted") [x]) Q E s:=by
 refine Calls.call_function_entry PyProof.Rows.kind_sorted PyProof.Rows.plain_sorted PyProof.Rows.entry_sorted (PyProof.Rows.args_sorted1 _) ?_
 unfold Builtin.«sorted»
 refine Bx (m:=checkCount "sorted" 1 1 _) (BA ?_)
 refine Bx (Cw hc (λ vs s1 h1=>?_) λ _ _ e=>e)
 obtain⟨ns,hI,h64,fin⟩:=h1
 exact mR hI h64 λ out ns' h' c a b d e f=>⟨_,rfl,fin out ns' h' c a b d e f⟩
end
end SetT
namespace L2
open PySem PySem.Spec PyProof.Rows SetT
noncomputable def fb (P:Program) (w:World) (a:Addr) (ks:List Int):HO:=.ext λ h=>cw P w h a ks
theorem fb.ok (S:cw P w h a ks):bo P w H h a (fb P w a ks):=
 ⟨S,let ⟨o,_,_,_,e,_⟩:=S;⟨o,e⟩,λ _ _ S e=>S.at' e⟩
theorem fb.get (x:bo P w H h a (fb P w a ks)):cw P w h a ks:=x.1
noncomputable def iV (ns:List Int):List V:=ns.map V.int
theorem n8:∀ {ns:List Int}{us:List Value},Vals (iV ns) us->IntsAre us ns
 | [],_,.nil=>.nil
 | n::ns,_,.cons r t=>by
  obtain⟨j,rfl⟩:=r
  exact .cons n j (n8 t)
theorem pk:∀ {ns:List Int}{us:List Value},IntsAre us ns->Vals (iV ns) us
 | _,_,.nil=>.nil
 | _,_,.cons n t j=>.cons ⟨t,rfl⟩ (pk j)
section
variable {X:Cx}{K:PySem.W.Frag}{P:Program}{w:World}
noncomputable def wU (K:PySem.W.Frag) (P:Program) (w:World):List V->Hp->VK->Prop:=λ xs H Q=>∃ p ns,xs=[.ref p]/\SqL K H p (iV ns)/\ns.length<=63 /\
 ∀ l ks,H l=none->ks.Nodup->(∀ y,y∈ks↔y∈ns)->Q (.ref l) (upd H l (fb P w l ks))
theorem jz (J:X.calm=true) (F:X.K=K:=by rfl) (G:X.prog=P:=by rfl) (M:X.w=w:=by rfl):cx X (.type "set") (wU K P w):=by
 subst F;subst G;subst M
 intro pins s σ H xs us Q I r h
 obtain⟨p,ns,rfl,L,z,q⟩:=h
 obtain⟨u,rfl,Y⟩:=vals1 r
 cases Y
 obtain⟨O,W,V,Z⟩:=I.list L
 have j:=n8 W
 have U:=IntsAre.length j
 refine nM (I.ok.hd J) V.isList (by simpa using j) (by simp only[B9];lia) λ h' tk ks S m R=>?_
 exact⟨.ref s.heap.objs.size,_,I.laid R (Nat.le_refl _) (fb.ok S),rfl,q _ ks I.fresh S.nodup m⟩
noncomputable def Bn (P:Program) (w:World):R2:=λ x y H Q=>∃ (p q:Addr) (ka kb U:List Int),x=.ref p/\y=.ref q/\p≠q/\H p=some (fb P w p ka)/\H q=some (fb P w q kb)/\U.length<=62/\(∀ y∈ka,y∈U)/\(∀ y∈kb,y∈U) /\
 ∀ l ks,H l=none->ks.Nodup->(∀ y,y∈ks↔y∈ka\/y∈kb)->Q (.ref l) (upd H l (fb P w l ks))
theorem vD (F:X.prog=P:=by rfl) (L:X.w=w:=by rfl):OpR X (binaryOp .BitOr) (Bn P w):=by
 subst F;subst L
 intro pins s σ H x y v u Q I R V h
 obtain⟨p,q,Z,kb,U,rfl,rfl,O,G,J,j,W,Y,z⟩:=h
 cases R;cases V
 refine Ba (fb.get (I.hok _ _ G)) (fb.get (I.hok _ _ J)) O j W Y λ h' ks S m M=>?_
 exact⟨.ref s.heap.objs.size,_,I.laid (t':=s.toks) M (Nat.le_refl _) (fb.ok S),rfl,z _ ks I.fresh S.nodup m⟩
noncomputable def vW (P:Program) (w:World):List V->Hp->VK->Prop:=λ xs H Q=>∃ p ks,xs=[.ref p]/\H p=some (fb P w p ks) /\
 ∀ l ns,H l=none->ns.Perm ks->ns.Pairwise (· <= ·)->Q (.ref l) (upd H l (.lst (iV ns)))
theorem nF (U:X.calm=true) (R:X.prog=P:=by rfl) (W:X.w=w:=by rfl):cx X (.builtin "sorted") (vW P w):=by
 subst R;subst W
 intro pins s σ H xs us Q I r h
 obtain⟨p,ks,rfl,V,q⟩:=h
 obtain⟨u,rfl,rx⟩:=vals1 r
 cases rx
 have S:=fb.get (I.hok _ _ V)
 refine qe (mE (by simpa using I.ok.hd U) S λ vs ns h1 tk M J Z=>⟨ns,M,?_,λ G j h' c F e O z so=>?_⟩)
 ·have:=S.few;have:=J.length_eq;have:=IntsAre.length M;lia
 ·have L:Inv X pins σ H { s with heap:=h1,toks:=tk }:=I.kept Z
  have Y:(iV j).length<=sizeLine:=by
   unfold iV;rw[BB,z.length_eq,J.length_eq];exact eA (B6 S.few (by lia))
  exact⟨.ref h1.objs.size,_,L.laid (t':=tk) F (Nat.le_refl _) (show bo X.prog X.w _ h' _ (.lst (iV j)) from ⟨Y,G.toList,c,pk O,by rw[e]⟩),rfl,q _ j L.fresh (z.trans J) so⟩
end
noncomputable def gA (lo hi:Int):List Int:=(List.range (hi-lo).toNat).map λ i:Nat=>lo+i
theorem eT {lo hi y:Int}:y∈gA lo hi↔lo<=y/\y<hi:=by
 unfold gA
 rw[BV]
 constructor
 ·rintro⟨i,hi,rfl⟩
  rw[Dz] at hi
  lia
 ·rintro⟨h1,h2⟩
  exact⟨(y-lo).toNat,Dz.mpr (by lia),by lia⟩
theorem eD {lo hi:Int}:(gA lo hi).length=(hi-lo).toNat:=by unfold gA;rw[BB,Em]
section
variable {X:Cx}{K:PySem.W.Frag}{P:Program}{w:World}
noncomputable def zv:List V->Hp->VK->Prop:=λ xs H Q=>∃ i j:Int,xs=[.int i,.int j]/\∀ l,H l=none->Q (.ref l) (upd H l (.rng i j))
theorem pK:cx X (.type "range") zv:=by
 intro pins s σ H xs J Q I r h
 obtain⟨i,j,rfl,q⟩:=h
 cases r with
 | cons r z=>
  cases z with
  | cons F z=>
   cases z
   obtain⟨t,rfl⟩:=r
   obtain⟨G,rfl⟩:=F
   refine call_range_2 ⟨.ref s.heap.objs.size,_,I.laid (λ b o e=>Heap.get?_push_of_some _ e) (Nat.le_refl _) (show bo X.prog X.w _ _ _ (.rng i j) from ⟨_,_,_,Heap.get?_push_size _ rfl⟩),rfl,q _ I.fresh⟩
noncomputable def v9:List V->Hp->VK->Prop:=λ xs H Q=>∃ (p:Addr) (i j:Int),xs=[.ref p]/\H p=some (.rng i j)/\(-(2 ^ 62)<=i/\i<2 ^ 62 /\ -(2 ^ 62)<=j/\j<2 ^ 62)/\(j-i).toNat<=1000/\∀ l,H l=none->Q (.ref l) (upd H l (.lst (iV (gA i j))))
theorem pU:∀ {n:Nat}{acc:Array Value},ItemsOf (λ k v=>∃ t,v=Value.int (i+k*1) t) acc n->Vals (iV ((List.range n).map λ k:Nat=>i+k)) acc.toList:=by
 intro n acc h
 have j:∀ (l:List Value) (m:Nat),(∀ k v,l[k]? = some v->∃ t,v=Value.int (i+((m+k:Nat):Int)) t)->Vals (iV ((List.range' m l.length).map λ k:Nat=>i+k)) l:=by
  intro l
  induction l with
  | nil=>intro m _;exact .nil
  | cons v l z=>
   intro m q
   obtain⟨t,rfl⟩:=q 0 v rfl
   refine .cons ⟨t,rfl⟩ (z (m+1) λ k u e=>?_)
   obtain⟨t,rfl⟩:=q (k+1) u (by simpa using e)
   exact⟨t,by rw[show m+(k+1)=m+1+k by lia]⟩
 have:=j acc.toList 0 λ k v e=>by
  obtain⟨t,rfl⟩:=h.2 k v (by rw[<- Cj];exact e)
  exact⟨t,by simp⟩
 rw[BP,h.1,<- List.range_eq_range'] at this
 exact this
theorem jf (U:X.calm=true):cx X (.type "list") v9:=by
 intro pins s σ H xs us Q I r h
 obtain⟨p,i,j,rfl,W,⟨J,L,M,O⟩,G,q⟩:=h
 obtain⟨u,rfl,rx⟩:=vals1 r
 cases rx
 obtain⟨t,u,v,e⟩:=I.hok _ _ W
 have V:Builtin.Range.rangeSize i j 1=((j-i).toNat:Nat):=by rw[rangeSize_one];split<;>lia
 refine call_list_range (I.ok.hd U) e (small_one J L M O) V (by lia) λ h' tk z R Z S F=>?_
 have Y:(iV (gA i j)).length<=sizeLine:=by
  unfold iV;rw[BB,eD]
  exact B6 G (by decide)
 refine⟨.ref s.heap.objs.size,_,I.laid Z (Nat.le_refl _) (show bo X.prog X.w _ h' _ (.lst (iV (gA i j))) from ⟨Y,z.toList,R,pU F,by rw[S]⟩),rfl,q _ I.fresh⟩
end
section
variable {X:Cx}{pins:List (Addr×Obj)}{σ:St}{H:Hp}{s:Shared}{h':Heap}
theorem Inv.jP {t':Nat}{its:List Addr}{a:Addr}{o:HO}(I:Inv X pins σ H s) (k:∀ b u,b∉its->s.heap.get? b=some u->h'.get? b=some u) (L:∀ b∈its,iG X pins H b)
  (O:s.heap.objs.size<=a) (M:bo X.prog X.w (upd H a o) h' a o):Inv X pins σ (upd H a o) { s with heap:=h',toks:=t' }:=by
 have F:H a=none:=I.hok.fresh O
 have G:∀ b u,H b=some u->b∉its:=λ b u e z=>by rw[(L b z).1] at e;cases e
 have Z:∀ b u,s.heap.get? b=some u->b≠a:=λ b u e z=>absurd (BW (Heap.lt_size e) (by rw[z];exact O)) (C8 _)
 refine I.step (g':=s.gens) (d':=s.drawn) (ch:=its) (λ b J=>?_) (λ b u _ _ j e _=>k b u j e) (λ b u _ _ j e _=>⟨u.slots,k b u j e⟩) (λ b u _ e n=>by rw[aE (Z b u e)];exact n)
  (λ b u j e=>⟨u,k b u j e⟩) (λ b xs e=>by rw[aE (aF e F)];exact e) (λ b u v e=>by rw[aE (aF e F)];exact e) (λ b ps e=>⟨#[],by rw[aE (aF e F),e];simp⟩) (λ m W=>?_) (λ b u e=>?_) I.bare
 ·obtain⟨f0,R,f2,S,U,V⟩:=L b J
  exact⟨S,R,U,V⟩
 ·obtain⟨u,es,ep,Y,r⟩:=W
  exact⟨u,es,ep,k _ u (λ z=>(L _ z).2.1 rfl) Y,r⟩
 ·by_cases J:b=a
  ·subst J;rw[aD] at e;cases e;exact M
  ·rw[aE J] at e
   refine(I.hok b u e).iT (λ c v j q=>k c v ?_ q) (λ c q=>by rw[aE (aF q F)];exact q) λ c xs q=>by rw[aE (aF q F)];exact q
   rcases j with z|z
   ·rw[z];exact G b u e
   ·exact G c _ z
theorem Inv.pq {t':Nat}{its:List Addr}(I:Inv X pins σ H s) (k:∀ b u,b∉its->s.heap.get? b=some u->h'.get? b=some u) (G:∀ b∈its,iG X pins H b):Inv X pins σ H { s with heap:=h',toks:=t' }:=by
 have F:∀ b u,H b=some u->b∉its:=λ b u e z=>by rw[(G b z).1] at e;cases e
 refine I.step (g':=s.gens) (d':=s.drawn) (ch:=its) (λ b R=>?_) (λ b u _ _ j e _=>k b u j e) (λ b u _ _ j e _=>⟨u.slots,k b u j e⟩) (λ b u _ e n=>n)
  (λ b u j e=>⟨u,k b u j e⟩) (λ b xs e=>e) (λ b u v e=>e) (λ b ps e=>⟨#[],by rw[e];simp⟩) (λ m S=>?_) (λ b u e=>?_) I.bare
 ·obtain⟨V,J,W,L,M,O⟩:=G b R
  exact⟨L,J,M,O⟩
 ·obtain⟨u,es,ep,U,r⟩:=S
  exact⟨u,es,ep,k _ u (λ z=>(G _ z).2.1 rfl) U,r⟩
 ·refine(I.hok b u e).iT (λ c v j q=>k c v ?_ q) (λ c q=>q) λ c xs q=>q
  rcases j with z|z
  ·rw[z];exact F b u e
  ·exact F c _ z
end
noncomputable def Itz (K:PySem.W.Frag) (l1 l2:Addr):It:=
  ⟨λ i H=>∃ xs ys x y,SqL K H l1 xs/\SqL K H l2 ys/\xs[i]? = some x/\ys[i]? = some y,
   λ i H v H'=>∃ p x y,H p=none/\v=.ref p/\H'=upd H p (.tup [x,y])/\(∀ xs,SqL K H l1 xs->xs[i]? = some x)/\∀ ys,SqL K H l2 ys->ys[i]? = some y,
   λ i H=>∃ xs ys,SqL K H l1 xs/\SqL K H l2 ys/\(xs.length<=i\/ys.length<=i)⟩
theorem qQ {P:Program}{w:World}{K:PySem.W.Frag}{es:List Expr}{kk:Nat}{pos:Pos}(z L M R S l1 l2:Addr) (D:ZipApart z L M R S l1 l2) :
  Turn P w K (.Tuple es kk pos) (Itz K l1 l2) [z,L,M,R,S] z
   (λ i h=>IsZip h z L M .none/\IsPair h L (.ref R) (.ref S)/\(∃ a b,IsPair h M a b)/\h.IsListIter R l1 i/\h.IsListIter S l2 i) where
 mem:=by simp
 obj:=λ i h st b hb=>by
  obtain⟨J,j,⟨a,c,G⟩,⟨o1,e1,_,d1⟩,⟨o2,e2,_,d2⟩⟩:=st
  simp only[BF,BM,Ca] at hb
  rcases hb with rfl|rfl|rfl|rfl|rfl
  ·exact⟨_,J,λ v q=>by cases q⟩
  ·exact⟨_,j,λ v q=>by cases q⟩
  ·exact⟨_,G,λ v q=>by cases q⟩
  ·exact⟨_,e1,λ v q=>by rw[d1] at q;cases q⟩
  ·exact⟨_,e2,λ v q=>by rw[d2] at q;cases q⟩
 keep:=λ i h h' st k=>by
  obtain⟨J,j,⟨a,b,G⟩,h1,h2⟩:=st
  exact⟨k z (by simp) _ J,k L (by simp) _ j,⟨a,b,k M (by simp) _ G⟩,h1.at λ o e=>k R (by simp) o e,h2.at λ o e=>k S (by simp) o e⟩
 item:=by
  intro X hP hw hK F i pins s σ H E I hf st hg
  subst hP hw hK
  obtain⟨xs,ys,x,y,q1,q2,hx,hy⟩:=hg
  obtain⟨a8,U,p1,ad⟩:=I.list q1
  obtain⟨a9,V,p2,ae⟩:=I.list q2
  obtain⟨u1,aa,ag⟩:=U.get hx
  obtain⟨u2,ab,ah⟩:=V.get hy
  obtain⟨J,j,⟨a,b,G⟩,h1,h2⟩:=st
  have W:∀ {c o},s.heap.get? c=some o->s.heap.objs.size≠c:=λ e=>C5 (Heap.lt_size e)
  have n1:s.heap.objs.size≠z:=W J
  refine wpAny_pyNext_zip_item D J j G h1 h2 p1.isList p2.isList (x:=u1) (y:=u2) (by simpa using aa) (by simpa using ab) λ h' a1 a2 a3 a4 a5 a6 hk=>?_
  refine⟨_,rfl,wpAny_letOwnedTupleGo_zip a1 λ O a7 Y=>?_⟩
  have k2:∀ c o,c∉[z,L,M,R,S]->s.heap.get? c=some o->O.get? c=some o:=λ c o F e=>by
   simp only[BF,BM,Ca,DW] at F
   rw[Y.2 c F.1]
   exact hk c o F.1 F.2.2.1 F.2.2.2.1 F.2.2.2.2 e
  have af:bo X.prog X.w (upd H s.heap.objs.size (.tup [x,y])) O s.heap.objs.size (.tup [x,y]):=by
   have e5:O.get? s.heap.objs.size=some { cls:=.type "tuple",data:=.seq #[u1,u2] }:=(Y.2 _ n1).trans a5
   exact⟨eA (by simp),[u1,u2],.cons ag (.cons ah .nil),_,e5,rfl,_,rfl⟩
  refine⟨.ref s.heap.objs.size,_,I.jP (t':=s.toks) k2 hf (Nat.le_refl _) af,rfl,⟨_,x,y,I.fresh,rfl,rfl,λ zs hs=>by rw[I.gi hs q1];exact hx,λ zs hs=>by rw[I.gi hs q2];exact hy⟩,?_,λ c F=>?_⟩
  ·exact⟨a7,(Y.2 _ D.TIz).trans (hk _ _ D.TIz D.TITO D.TIi1 D.TIi2 j),⟨_,_,(Y.2 _ D.TOz).trans a2⟩,a3.extBut Y.extBut D.i1z,a4.extBut Y.extBut D.i2z⟩
  ·rw[aE]
   ·exact(hf c F).1
   ·simp only[BF,BM,Ca] at F
    rcases F with rfl|rfl|rfl|rfl|rfl
    ·exact Ne.symm (W J)
    ·exact Ne.symm (W j)
    ·exact Ne.symm (W G)
    ·obtain⟨_,e,_⟩:=h1;exact Ne.symm (W e)
    ·obtain⟨_,e,_⟩:=h2;exact Ne.symm (W e)
 done:=by
  intro X hP hw hK F i pins s σ H E I hf st hg
  subst hP hw hK
  obtain⟨xs,ys,q1,q2,Z⟩:=hg
  obtain⟨a8,U,p1,ad⟩:=I.list q1
  obtain⟨a9,V,p2,ae⟩:=I.list q2
  obtain⟨J,j,⟨a,b,G⟩,h1,h2⟩:=st
  have ai:=U.length
  have aj:=V.length
  refine wpAny_pyNext_zip_end (I.ok.hd F) D J j G h1 h2 p1.isList p2.isList (by
   rcases Z with z|z
   ·exact .inl (by simp;lia)
   ·exact .inr (by simp;lia)) λ h' hk=>⟨rfl,I.pq (t':=s.toks) (its:=[z,L,M,R,S]) (λ c o F e=>?_) hf⟩
  simp only[BF,BM,Ca,DW] at F
  exact hk c o F.1 F.2.2.1 F.2.2.2.1 F.2.2.2.2 e
 self:=λ _ _ _ _ _ st h=>wpAny_pyIter_zip st.1 h
section
variable {X:Cx}{K:PySem.W.Frag}
noncomputable def Bq (K:PySem.W.Frag) (ta:TA):TI:=λ σ H R=>ta σ H λ vs H1=>∃ p q xs ys,vs=[.ref p,.ref q]/\SqL K H1 p xs/\SqL K H1 q ys/\R (Itz K p q) H1
theorem wx {a b:Expr}{ta:TA}{p pos pos':Pos}{es:List Expr}{kk:Nat}(hg:Gl X "zip") (hm:X.mg "zip" = none) (ha:PA X [a,b] ta) (hs:starEach [a,b] X.env=[(false,eval a X.env),(false,eval b X.env)]:=by rfl) (z:starEach [b] X.env=[(false,eval b X.env)]:=by rfl) (hK:X.K=K:=by rfl) :
  PI X (.Tuple es kk pos') (.Call (.Name "zip" p) [a,b] [] pos) (Bq K ta):=by
 subst hK
 intro pins s σ H R I h
 refine Call_ (gH I hg hm boot_zip (DX (thn (ha pos pins s σ H _ I h) λ us F ⟨vs,H1,j,r1,O⟩=>?_) (by rw[hs,z]) (by rw[z];rfl)))
 obtain⟨G,J,xs,ys,rfl,O,q2,q⟩:=O
 obtain⟨u,v,rfl,rx,ry⟩:=vals2 r1
 cases rx;cases ry
 obtain⟨V,a3,Y,a1⟩:=j.list O
 obtain⟨W,a4,p2,a2⟩:=j.list q2
 have L:G<F.heap.objs.size:=by obtain⟨o,e,_⟩:=Y.isList;exact Heap.lt_size e
 have M:J<F.heap.objs.size:=by obtain⟨o,e,_⟩:=p2.isList;exact Heap.lt_size e
 refine call_zip_2 Y.isList p2.isList λ h' Z z2 z3 z4 z5 z6 kp=>?_
 refine wpAny_pyIter_zip Z ?_
 refine⟨_,_,_,Itz X.K G J,H1,rfl,j.kept (t':=F.toks) kp,qQ _ _ _ _ _ G J (zipApart_new L M),⟨Z,z2,⟨_,_,z3⟩,z4,z5⟩,λ b U=>?_,q⟩
 have S:F.heap.objs.size<=b:=by
  simp only[BF,BM,Ca] at U
  rcases U with rfl|rfl|rfl|rfl|rfl<;>first|exact Nat.le_refl _|exact FK _ _
 exact j.lR S (j.hok.fresh S)
noncomputable def Bh (K:PySem.W.Frag):List V->Hp->VK->Prop:=λ xs H Q=>∃ (p:Addr) (bs:List Bool),xs=[.ref p]/\SqL K H p (bs.map V.bl)/\Q (.bl (bs.all id)) H
theorem qg (Y:X.calm=true) (W:X.K=K:=by rfl):cx X (.builtin "all") (Bh K):=by
 subst W
 intro pins s σ H xs us Q I r h
 obtain⟨p,j,rfl,O,q⟩:=h
 obtain⟨u,rfl,rx⟩:=vals1 r
 cases rx
 obtain⟨z,M,L,hz⟩:=I.list O
 have F:j.length=z.length:=by have:=M.length;rwa [BB] at this
 have lt:p<s.heap.objs.size:=by obtain⟨o,e,_⟩:=L.isList;exact Heap.lt_size e
 refine call_all_walk (FA L.isList ⟨s.heap.objs.size,_,_,_,_,_,λ i=>j.getD i false,rfl,Walks.list (by simpa using I.ok.hd Y) s.heap.objs.size p (BU lt) z.toArray,⟨⟨_,Heap.get?_push_size _ rfl,rfl,rfl⟩,L.isList.push _⟩,λ i v s Q E Z J=>?_,λ h' tk kp=>?_⟩)
 ·have G:z[i]? = some v:=by simpa using Z
  have S:i<j.length:=by rw[F];exact(BE.mp G).1
  obtain⟨u,R,ru⟩:=M.get (i:=i) (x:=V.bl j[i]) (by rw[BC,Bz S];rfl)
  rw[G] at R
  cases R
  cases ru
  have e:j.getD i false=j[i]:=by rw[EN,Bz S];rfl
  dsimp only at J
  rw[e] at J
  exact C9 J
 ·have U:Inv X pins σ H { s with heap:=h',toks:=tk }:=I.kept λ b o e=>kp b o (by simp only[BD];exact BU (Heap.lt_size e)) (Heap.get?_push_of_some _ e)
  have e:(List.range z.toArray.size).all (λ i=>j.getD i false)=j.all id:=by
   rw[B9,<- F]
   clear q M hz O F
   induction j with
   | nil=>rfl
   | cons b j ih=>
    rw[Ci,List.range_succ_eq_map,EY,EH,EY,<- ih]
    rfl
  rw[e]
  exact⟨.bl (j.all id),H,U,rfl,q⟩
end
end L2
namespace L2
theorem kJ (h:PE X e t) (k:PE X e u):PE X e (λ σ H Q=>t σ H Q\/u σ H Q):=by
 intro pins s σ H Q I q
 rcases q with q|q
 ·exact h pins s σ H Q I q
 ·exact k pins s σ H Q I q
open PySem PySem.Spec PyProof.Rows
noncomputable def isStar:Expr->Bool
 | .Starred .. => true
 | _=>false
theorem sW (h:isStar e=false):starEach (e::es) env=(false,eval e env)::starEach es env:=by
 cases e<;>first|rfl|cases h
theorem aI (j:PE X e te) (q:PA X es t) (h:isStar e=false:=by rfl):PA X (e::es) (dm te t):=sZ j q (sW h)
open PySem PySem.Spec PyProof.Rows SetT
noncomputable abbrev Nx (n i:Nat) (A:Prop):Prop:=∃ m',m'<n-i/\(m'=n-(i+1)/\i+1<=n/\A)
theorem Nx.mk (h:i<n) (a:A):Nx n i A:=⟨n-(i+1),by lia,rfl,h,a⟩
theorem dk {K:PySem.W.Frag}{a:Addr}{xs:List V}{k:Nat}{g:TG}{tc:TT}{te:TE}{σ:St}{H1:Hp}{Q:VK}(R:xs.length<=1000)
  (h:∀ acc,H1 acc=none->∃ F:Nat->St->List V->Hp->Prop,F 0 (σ++List.replicate k none) [] (upd H1 acc (.lst []))/\(∀ i j ys H2,i<=xs.length->F i j ys H2->SqL K H2 a xs/\ys.length<=i) /\
   (∀ i x j ys H2,i<xs.length->xs[i]? = some x->F i j ys H2->g x j H2 λ z O=>tc z O λ b L=>if b=true then te z L λ v M=>M acc=some (.lst ys)/\Nx xs.length i (F (i+1) z (ys++[v]) (upd M acc (.lst (ys++[v])))) else Nx xs.length i (F (i+1) z ys L)) /\
   ∀ j ys H2,F xs.length j ys H2->Q (.ref acc) H2):gS (Itl K a) k g tc te σ H1 Q:=by
 intro acc S
 obtain⟨F,U,Y,ps,W⟩:=h acc S
 refine⟨λ i m j ys H2=>m=xs.length-i/\i<=xs.length/\F i j ys H2,⟨xs.length,by simp,Cf _,U⟩,?_⟩
 rintro i m j ys H2 ⟨rfl,hi,p⟩
 obtain⟨q,J⟩:=Y i j ys H2 hi p
 by_cases G:i<xs.length
 ·refine .inr ⟨⟨xs,xs[i],q,by simp[G]⟩,CQ J (bg (by lia)),λ x Z y=>?_⟩
  obtain⟨e,y⟩:=y
  subst e
  exact ps i x j ys _ G (y xs q) p
 ·have e:i=xs.length:=by lia
  subst e
  exact .inl ⟨⟨xs,q,Nat.le_refl _⟩,W j ys H2 p⟩
theorem dZ {lo:Int}{n:Nat}{k:Nat}{g:TG}{tc:TT}{te:TE}{σ:St}{H1:Hp}{Q:VK}(O:n<=1000)
  (h:∀ acc,H1 acc=none->∃ z:Nat->St->List V->Hp->Prop,z 0 (σ++List.replicate k none) [] (upd H1 acc (.lst []))/\(∀ i j ys H2,i<=n->z i j ys H2->ys.length<=i) /\
   (∀ i j ys H2,i<n->z i j ys H2->g (.int (lo+i)) j H2 λ q M=>tc q M λ b J=>if b=true then te q J λ v L=>L acc=some (.lst ys)/\Nx n i (z (i+1) q (ys++[v]) (upd L acc (.lst (ys++[v])))) else Nx n i (z (i+1) q ys J)) /\
   ∀ j ys H2,z n j ys H2->Q (.ref acc) H2):gS (Itr lo n) k g tc te σ H1 Q:=by
 intro acc R
 obtain⟨z,S,W,ps,U⟩:=h acc R
 refine⟨λ i m j ys H2=>m=n-i/\i<=n/\z i j ys H2,⟨n,by simp,Cf _,S⟩,?_⟩
 rintro i m j ys H2 ⟨rfl,hi,p⟩
 have G:=W i j ys H2 hi p
 by_cases F:i<n
 ·refine .inr ⟨F,CQ G (bg (by lia)),λ x Y y=>?_⟩
  obtain⟨e,rfl⟩:=y
  subst e
  exact ps i j ys _ F p
 ·have e:i=n:=by lia
  subst e
  exact .inl ⟨Nat.le_refl _,U j ys H2 p⟩
noncomputable def But (S:List Addr) (H H':Hp):Prop:=∀ b o,b∉S->H b=some o->H' b=some o
theorem But.of (h:aL H H'):But S H H':=λ b o _ e=>h b o e
theorem But.trans (h:But S H H') (k:But S H' H''):But S H H'':=λ b o n e=>k b o n (h b o n e)
theorem But.mono (h:But S H H') (k:∀ b∈S,b∈S'):But S' H H':=λ b o n e=>h b o (λ z=>n (k b z)) e
theorem But.upd:But [p] H (upd H p o):=λ b u n e=>by rw[aE (λ z=>n (by simp[z]))];exact e
structure fD (H G G' H':Hp):Prop where
 sub:aL G G'
 held:aL G' H'
 new:∀ b o,G' b=some o->G b=some o\/H b=none
theorem fD.free (g:fD H G G' H') (h:H b≠none) (n:G b=none):G' b=none:=by
 cases e:G' b with
 | none=>rfl
 | some o=>
  rcases g.new b o e with z|z
  ·rw[n] at z;cases z
  ·exact absurd z h
noncomputable def okD (n:Nat) (d:PyData):Prop:=d.canLay0=true/\d.depth<=n/\noDict d=true
theorem okD.int:okD n (.int i):=⟨by simp[PyData.canLay0],by simp[PyData.depth],by simp[noDict]⟩
theorem okD.bool:okD n (.bool i):=⟨by simp[PyData.canLay0],by simp[PyData.depth],by simp[noDict]⟩
theorem okD.none:okD n .none:=⟨by simp[PyData.canLay0],by simp[PyData.depth],by simp[noDict]⟩
theorem okD.all:∀ {xs:List PyData},(∀ d∈xs,okD n d)->PyData.canLayAll0 xs=true/\PyData.depthAll xs<=n/\noDicts xs=true
 | [],_=>⟨by simp[PyData.canLayAll0],by simp[PyData.depthAll],by simp[noDicts]⟩
 | x::xs,h=>by
  obtain⟨a,b,c⟩:=okD.all λ d z=>h d (BQ _ z)
  obtain⟨j,F,q⟩:=h x BR
  refine⟨by simp[PyData.canLayAll0,a,j],?_,by simp[noDicts,c,q]⟩
  rw[PyData.depthAll]
  lia
theorem okD.list (h:∀ d∈xs,okD n d):okD (n+1) (.list xs):=by
 obtain⟨a,b,c⟩:=okD.all h
 exact⟨by simp[PyData.canLay0,a],by rw[PyData.depth];lia,by simp[noDict,c]⟩
theorem okD.tuple (h:∀ d∈xs,okD n d):okD (n+1) (.tuple xs):=by
 obtain⟨a,b,c⟩:=okD.all h
 exact⟨by simp[PyData.canLay0,a],by rw[PyData.depth];lia,by simp[noDict,c]⟩
theorem okD.mono (h:okD n d) (l:n<=m):okD m d:=⟨h.1,B6 h.2.1 l,h.2.2⟩
theorem okD.shaped (h:okD n d) (l:n<=64):SeqAt.shaped d=true:=by
 unfold SeqAt.shaped
 rw[h.1,Cu (B6 h.2.1 l)]
 rfl
theorem okD.self (h:okD n d):PyData.eqv d d=true:=iH h.2.2
theorem cK {K:PySem.W.Frag}{H:Hp}:∀ {ns:List Int},bR K H (iV ns) (ns.map PyData.int)
 | []=>.nil
 | n::ns=>.cons (.int n) cK
theorem iQ {n:Nat}{ns:List Int}:∀ d∈ns.map PyData.int,okD n d:=λ d hd=>by
 obtain⟨i,_,rfl⟩:=BV.mp hd
 exact .int
theorem fD.freeze (g:fD H G G' H') (n:H p=none) (h:H' p=some o):fD H G (L2.upd G' p o) H':=by
 refine⟨λ b u e=>?_,λ b u e=>?_,λ b u e=>?_⟩
 ·by_cases j:b=p
  ·subst j
   have:=g.held _ _ (g.sub _ _ e)
   rw[h] at this
   rw[aD];exact this
  ·rw[aE j];exact g.sub _ _ e
 ·by_cases j:b=p
  ·subst j;rw[aD] at e;rw[h];exact e
  ·rw[aE j] at e;exact g.held _ _ e
 ·by_cases j:b=p
  ·subst j;exact .inr n
  ·rw[aE j] at e;exact g.new _ _ e
theorem fD.then (g:fD H G G1 H1) (k:fD H1 G1 G2 H2) (s:∀ b o,H b=some o->∃ u,H1 b=some u):fD H G G2 H2:=
 ⟨g.sub.trans k.sub,k.held,λ b o e=>by
  rcases k.new b o e with z|z
  ·exact g.new b o z
  ·refine .inr ?_
   cases q:H b with
   | none=>rfl
   | some u=>obtain⟨F,j⟩:=s b u q;rw[z] at j;cases j⟩
section
variable {X:Cx}{e a b:Expr}{es:List Expr}{te ta tb:TE}{t:TA}{pos:Pos}{ks:List (Option Expr)}{vs:List Expr}{ts:List (TE×TE)}
end
section
variable {prog:Program}{w:World}{A:Around}{R:Result->Shared->Prop}{it S:Addr}{fp wr:List Addr}{n:Nat}{Pi:Nat->Value->Prop}{St:Nat->Heap->Prop}{kw:List (Str×Value)}{val:Nat->Int}
end
section
variable {X:Cx}{K:PySem.W.Frag}
end
theorem cg:∀ (j:List (Str×NameKind)) (n:Nat) (acc:List (Str×Addr)),cellsFrom n j acc=cellsFrom n j []++acc
 | [],_,_=>rfl
 | (x,k)::r,n,acc=>by
  unfold cellsFrom
  split
  ·rw[cg r (n+1) ((x,n)::acc),cg r (n+1) [(x,n)],CI];rfl
  ·exact cg r n acc
theorem dE:∀ {j:List (Str×NameKind)}{n:Nat}{acc:List (Str×Addr)}{x:Str}{c:Addr},(x,c)∈cellsFrom n j acc->(x,c)∈acc\/∃ y∈j,y.1=x/\y.2=.cell
 | [],_,_,_,_,h=>.inl h
 | (y,k)::r,n,acc,x,c,h=>by
  unfold cellsFrom at h
  split at h
  ·rename_i G
   rcases dE h with z|⟨F,m,q⟩
   ·rcases BF.mp z with z|z
    ·cases z;exact .inr ⟨_,BR,rfl,Dc.mp G⟩
    ·exact .inl z
   ·exact .inr ⟨F,BQ _ m,q⟩
  ·rcases dE h with z|⟨F,m,q⟩
   ·exact .inl z
   ·exact .inr ⟨F,BQ _ m,q⟩
theorem gX (f:Str×Value->PUnit->Sem (ForInStep PUnit)) (z:∀ n v u,f (n,v) u=(do storeName env n v;pure (.yield ⟨⟩))) (F:env.scope.kind=.function) :
  ∀ (j:List (Str×Value)) (m:Str->Option Value) (s:Shared) (Q:PUnit->Shared->Prop),s.heap.Ns env.locals m->(∀ x∈j,env.kindOf x.1=some .local) ->
   (∀ h' tk,h'.Ns env.locals (bindL env.kindOf j m)->Heap.SameBut env.locals s.heap h'->Q ⟨⟩ { s with heap:=h',toks:=tk })->wpAny M A (forIn j ⟨⟩ f) Q E s
 | [],m,s,Q,n,_,h=>by rw[List.forIn_nil];exact BA (h s.heap s.toks n (Heap.SameBut.refl ..))
 | (x,v)::r,m,s,Q,n,hl,h=>by
  rw[Ea,z]
  have G:env.kindOf x=some .local:=hl (x,v) BR
  refine Bx (Bx (wpAny_storeName_local G n (λ h1 U J=>BA ?_) (by rw[F];rfl)))
  refine gX f z F r _ _ Q U (λ y O=>hl y (BQ _ O)) λ h2 tk V L=>?_
  refine h h2 tk ?_ ⟨L.1.trans J.1,λ b q=>(L.2 b q).trans (J.2 b q)⟩
  unfold bindL
  rw[BN G]
  exact V
theorem mH {M:Model}{A:Around}{E:Value->Shared->Prop}{s:Shared}{scope:Scope}{cl:List (Str×Addr)}{j:List (Str×Value)}{qual:Str}{z:Option Addr}{q:Value}{Q:Env->Shared->Prop}
  (Y:scope.kind=.function) (Z:∀ x∈j,scope.names.lookup x.1=some .local)
  (W:∀ env,env=newEnv scope s.heap.objs.size mainGlobals (cellsFrom (s.heap.objs.size+1) scope.names cl) qual z q none builtinsNs ->
   ∀ h' tk,h'.Ns s.heap.objs.size (bindL env.kindOf j λ _=>none)->(∀ b o,s.heap.get? b=some o->h'.get? b=some o) ->
    (∀ n c,(n,c)∈cellsFrom (s.heap.objs.size+1) scope.names []->h'.IsCell c none/\s.heap.objs.size+1<=c)->(cellsFrom (s.heap.objs.size+1) scope.names []).Pairwise (λ x y=>x.2≠y.2)->Q env { s with heap:=h',toks:=tk }) :
  wpAny M A (newFunctionEnv scope mainGlobals cl j qual z q none builtinsNs) Q E s:=by
 simp only[newFunctionEnv,Option.isSome_none,B0,CJ]
 refine Bx (wpAny_alloc ?_)
 refine Bx (wpAny_layCells _ (λ name F G=>by cases J:F == NameKind.cell<;>simp[J]) _ _ _ _ ?_)
 have O:=cellsFrom_ok scope.names (s.heap.push { cls:=.type "frame",data:=.dict #[] }) (s.heap.objs.size+1) [] ⟨λ _ _ L=>(nomatch L),List.Pairwise.nil⟩ (by rw[Heap.size_push];exact Nat.le_refl _)
 rw[Heap.size_push] at O
 rw[show ({ s with heap:=s.heap.push { cls:=.type "frame",data:=.dict #[] } }:Shared).heap.objs.size=s.heap.objs.size+1 from Heap.size_push ..]
 refine Bx (gX (env:=newEnv scope s.heap.objs.size mainGlobals (cellsFrom (s.heap.objs.size+1) scope.names cl) qual z q none builtinsNs)
  _ (λ _ _ _=>rfl) Y j (λ _=>none) _ _ ((Heap.Ns.new s.heap (.type "frame")).keeps (pushCells_keeps _ _)) Z λ h' tk n U=>BA (W _ rfl h' tk n (λ b o e=>?_) (λ n c L=>?_) O.apart))
 ·exact(U.2 b (BU (Heap.lt_size e))).trans (pushCells_keeps _ _ b o (Heap.get?_push_of_some _ e))
 ·obtain⟨z1,V⟩:=O.empty n c L
  exact⟨z1.sameBut U (C5 V),V⟩
structure i3 (N ps F:List Str) (sc:Scope):Prop where
 kind:sc.kind=.function
 co:sc.isCoroutine=false
 gen:sc.isGenerator=false
 nd:N.Nodup
 pre:N.take ps.length=ps
 post:N.drop (N.length-F.length)=F
 fit:ps.length+F.length<=N.length
 par:∀ x∈ps,sc.names.lookup x=some .local
 fre:∀ y∈sc.names,y.2=.free->y.1∈F
 isf:∀ x∈F,sc.names.lookup x=some .free
 noc:∀ y∈sc.names,y.2=.cell->y.1∉F
noncomputable def fJ (N:List Str) (vs ws:List V):St:=vs.map some++List.replicate (N.length-vs.length-ws.length) none++ws.map some
noncomputable def cxC (CX:CXT) (P:Program) (w:World) (K:PySem.W.Frag) (mg:Str->Option Value) (base:Heap) (N F:List Str) (qual:Str) (scope:Scope) (f:Addr) (cd:Value) (cl:List (Str×Addr)) (A:Around) (outer:List Env) (s:Shared) (H:Hp) (E:XK):Cx where
 prog:=P
 w:=w
 K:=K
 mg:=mg
 base:=base
 A:=A.deeper (PySem.W.envX qual scope s.heap.objs.size f cd (cellsFrom (s.heap.objs.size+1) scope.names cl))
 N:=N
 s₀:=s
 H₀:=H
 env:=PySem.W.envX qual scope s.heap.objs.size f cd (cellsFrom (s.heap.objs.size+1) scope.names cl)
 outer:=outer
 stack:=PySem.W.envX qual scope s.heap.objs.size f cd (cellsFrom (s.heap.objs.size+1) scope.names cl)::outer
 ex:=[]
 calm:=true
 fn:=λ x=>!F.contains x
 pn:=[]
 xe:=λ e s'=>wpAny (model P w) (A.deeper (PySem.W.envX qual scope s.heap.objs.size f cd (cellsFrom (s.heap.objs.size+1) scope.names cl))) (leaving (PySem.W.envX qual scope s.heap.objs.size f cd (cellsFrom (s.heap.objs.size+1) scope.names cl)) e)
  (λ _ s''=>CX outer H s E e s'') (λ e' s''=>CX outer H s E e' s'') s'
theorem nG (z:vs.length+ws.length<=N.length) (h:(fJ N vs ws)[i]? = some (some v)) :
  (i<vs.length/\vs[i]? = some v)\/∃ j,i=N.length-ws.length+j/\ws[j]? = some v:=by
 unfold fJ at h
 by_cases h1:i<vs.length
 ·rw[CI,Cn (by simpa using h1),BC] at h
  cases e:vs[i]? with
  | none=>rw[e] at h;cases h
  | some a=>rw[e] at h;cases h;exact .inl ⟨h1,rfl⟩
 ·by_cases h2:i<N.length-ws.length
  ·rw[Cn (by simp;lia),B5 (by simpa using h1),Eh] at h
   split at h<;>cases h
  ·rw[B5 (by simp;lia),BC] at h
   refine .inr ⟨i-(N.length-ws.length),by lia,?_⟩
   have e:i-(List.map some vs++List.replicate (N.length-vs.length-ws.length) none).length=i-(N.length-ws.length):=by simp;lia
   rw[e] at h
   cases q:ws[i-(N.length-ws.length)]? with
   | none=>rw[q] at h;cases h
   | some a=>rw[q] at h;cases h;rfl
theorem ni {CX:CXT}{P:Program}{w:World}{K:PySem.W.Frag}{mg:Str->Option Value}{base:Heap}{N ps F:List Str}{qual:Str}{scope:Scope}{f:Addr}{cd:Value}{cl:List (Str×Addr)}{A:Around}{outer:List Env}{s:Shared}{H:Hp}{E:XK}{us:List Value}{vs ws:List V}{h':Heap}{tk:Nat}
  (S:i3 N ps F scope) (hd:A.handled=none) (e0:j8 P w K mg base A outer s H) (hl:vs.length=ps.length) (r:Vals vs us) (wl:ws.length=F.length)
  (c1:∀ x c,cl.lookup x=some c->x∈F) (c2:∀ x y c,cl.lookup x=some c->cl.lookup y=some c->x=y)
  (c3:∀ (i:Nat) x v,F[i]? = some x->ws[i]? = some v->∃ c o u,cl.lookup x=some c/\H c=some (.frz o (.own c))/\o.data=.cell (some u)/\RelV v u)
  (n:h'.Ns s.heap.objs.size (bindL (PySem.W.envX qual scope s.heap.objs.size f cd (cellsFrom (s.heap.objs.size+1) scope.names cl)).kindOf (ps.zip us) λ _=>none)) (hk:∀ b o,s.heap.get? b=some o->h'.get? b=some o)
  (o1:∀ n c,(n,c)∈cellsFrom (s.heap.objs.size+1) scope.names []->h'.IsCell c none/\s.heap.objs.size+1<=c) (o2:(cellsFrom (s.heap.objs.size+1) scope.names []).Pairwise (λ x y=>x.2≠y.2)) :
  Inv (cxC CX P w K mg base N F qual scope f cd cl A outer s H E) [] (fJ N vs ws) H { s with heap:=h',toks:=tk }:=by
 have noA:∀ b:Addr,b∉(cxC CX P w K mg base N F qual scope f cd cl A outer s H E).ex:=λ b z=>absurd (show b∈([]:List Addr) from z) (by simp)
 have look:∀ x c,(cellsFrom (s.heap.objs.size+1) scope.names cl).lookup x=some c->(x,c)∈cellsFrom (s.heap.objs.size+1) scope.names []\/cl.lookup x=some c:=λ x c e=>by
  rw[cg,Fw] at e
  cases q:(cellsFrom (s.heap.objs.size+1) scope.names []).lookup x with
  | none=>rw[q] at e;exact .inr e
  | some d=>rw[q] at e;cases e;exact .inl (CA q)
 have inF:∀ x c,cl.lookup x=some c->∃ o u,H c=some (.frz o (.own c))/\o.data=.cell (some u)/\h'.get? c=some o/\c<s.heap.objs.size:=λ x c e=>by
  obtain⟨i,hi,ei⟩:=C6.mp (c1 x c e)
  have hw:i<ws.length:=by lia
  obtain⟨c',o,u,z1,z2,z3,_⟩:=c3 i x ws[i] (by rw[Bz hi,ei]) (Bz hw)
  rw[e] at z1;cases z1
  obtain⟨q,_⟩:=e0.hok c _ z2
  exact⟨o,u,z2,z3,hk _ _ q,Heap.lt_size q⟩
 have nofn:∀ x,x∈F->(cxC CX P w K mg base N F qual scope f cd cl A outer s H E).fn x=false:=λ x hx=>by
  show (!F.contains x)=false
  rw[List.contains_iff_mem.mpr hx];rfl
 refine⟨⟨e0.mod,S.kind,rfl,rfl,Nat.le_refl _,λ y z c h1 h2=>?_,λ y hy=>?_,λ y c hf h=>?_,λ _=>hd,Around.frames_deeper e0.frames,.inr ⟨rfl,rfl⟩,λ b z=>absurd z (noA b),e0.bs,e0.bsz,λ b _ _=>noA b,λ b z=>absurd z (noA b),e0.gv,e0.frf⟩,
  rfl,e0.bare,Un.kept hk,⟨_,n,λ i y v h1 h2 h3=>?_⟩,λ y c h=>?_,e0.hok.fresh (Nat.le_refl _),λ y c h=>?_,λ p hp=>absurd (show p∈([]:List (Addr×Obj)) from hp) (by simp),e0.hok.kept hk,?_⟩
 ·rcases look y c h1 with a|a<;>rcases look z c h2 with b|b
  ·exact name_of_addr o2 a b
  ·obtain⟨_,_,_,_,_,lt⟩:=inF z c b
   exact absurd (BW lt (B6 (D1 _) (o1 y c a).2)) (C8 _)
  ·obtain⟨_,_,_,_,_,lt⟩:=inF y c a
   exact absurd (BW lt (B6 (D1 _) (o1 z c b).2)) (C8 _)
  ·exact c2 y z c a b
 ·have hy:scope.names.lookup y=some .cell\/scope.names.lookup y=some .free:=hy
  show ∃ c,(cellsFrom (s.heap.objs.size+1) scope.names cl).lookup y=some c
  rw[cg,Fw]
  rcases hy with hy|hy
  ·obtain⟨c,e⟩:=iB (n:=s.heap.objs.size+1) hy
   exact⟨c,by rw[e];rfl⟩
  ·obtain⟨i,hi,ei⟩:=C6.mp (S.fre _ (CA hy) rfl)
   have hw:i<ws.length:=by lia
   obtain⟨c',_,_,z1,_⟩:=c3 i y ws[i] (by rw[Bz hi,ei]) (Bz hw)
   cases q:(cellsFrom (s.heap.objs.size+1) scope.names []).lookup y with
   | none=>exact⟨c',by rw[z1];rfl⟩
   | some d=>exact⟨d,rfl⟩
 ·rcases look y c h with a|a
  ·have:=(o1 y c a).2
   show s.heap.objs.size<=c
   lia
  ·rw[nofn y (c1 y c a)] at hf;cases hf
 ·have hi:i<N.length:=(BE.mp h1).1
  rcases nG (by have:=S.fit;lia) h2 with ⟨hi,ha⟩|⟨j,rfl,ha⟩
  ·obtain⟨u,hu,rv⟩:=r.get ha
   have hp:ps[i]? = some y:=by
    rw[<- S.pre,EW (by lia)];exact h1
   have ndP:ps.Nodup:=by rw[<- S.pre];exact S.nd.sublist (FG _ _)
   have k:=S.par y (BJ hp)
   exact⟨u,rv,.inl ⟨k,gz ndP hp hu k⟩⟩
  ·have hF:F[j]? = some y:=by
    rw[<- S.post,List.getElem?_drop,<- wl];exact h1
   obtain⟨c,o,u,z1,z2,z3,z4⟩:=c3 j y v hF ha
   obtain⟨q,_⟩:=e0.hok c _ z2
   refine⟨u,z4,.inr ⟨.inr (S.isf y (BJ hF)),c,?_,o,hk _ _ q,z3⟩⟩
   show (cellsFrom (s.heap.objs.size+1) scope.names cl).lookup y=some c
   rw[cg,Fw]
   cases q:(cellsFrom (s.heap.objs.size+1) scope.names []).lookup y with
   | none=>rw[z1];rfl
   | some d=>
    rcases dE (CA q) with z|⟨y',m1,rfl,m3⟩
    ·exact absurd z (by simp)
    ·exact absurd (BJ hF) (S.noc _ m1 m3)
 ·rcases look y c h with a|a
  ·exact⟨_,(o1 y c a).1⟩
  ·obtain⟨o,u,_,z3,z,_⟩:=inF y c a
   exact⟨_,o,z,z3⟩
 ·rcases look y c h with a|a
  ·exact .inl (e0.hok.fresh (by have:=(o1 y c a).2;lia))
  ·obtain⟨o,u,z,_⟩:=inF y c a
   exact .inr ⟨nofn y (c1 y c a),o,_,z⟩
 ·unfold fJ
  show _=N.length
  rw[BL,BL,BB,BB,CK]
  have:=S.fit
  lia
noncomputable def fU (H H':Hp):Prop:=∀ b o u,H b=some (.frz o u)->H' b=some (.frz o u)
theorem fU.refl (H:Hp):fU H H:=λ _ _ _ h=>h
theorem fU.trans (a:fU H H1) (b:fU H1 H2):fU H H2:=λ c o u h=>b c o u (a c o u h)
theorem j6 {sc:Scope}{env:Env}(h:∀ y∈sc.names,y.2=.free->∃ c,env.cells.lookup y.1=some c) :
  ∃ cl,closureFor sc env=pure cl/\∀ x c,cl.lookup x=some c->∃ y∈sc.names,y.1=x/\y.2=.free:=by
 have go:∀ (names:List (Str×NameKind)) (cs:List (Str×Addr)),(∀ y∈names,y.2=.free->∃ c,env.cells.lookup y.1=some c) ->
   ∃ cl,(forIn names cs λ(x:Str×NameKind) (r:List (Str×Addr))=>(if (x.2 == NameKind.free)=true then do let c <- cellOf env x.1;pure (ForInStep.yield ((x.1,c)::r)) else pure (ForInStep.yield r):Sem (ForInStep (List (Str×Addr)))))=pure cl /\
    ∀ x c,cl.lookup x=some c->(∃ c',cs.lookup x=some c')\/∃ y∈names,y.1=x/\y.2=.free:=by
  intro names
  induction names with
  | nil=>intro cs _;exact⟨cs,rfl,λ x c e=>.inl ⟨c,e⟩⟩
  | cons y r ih=>
   intro cs hn
   by_cases hy:y.2=.free
   ·obtain⟨c,hc⟩:=hn y BR hy
    obtain⟨cl,e,h1⟩:=ih ((y.1,c)::cs) (λ z hz=>hn z (BQ _ hz))
    refine⟨cl,?_,λ x c' e'=>?_⟩
    ·rw[Ea]
     have e1:(y.2 == NameKind.free)=true:=by rw[hy];rfl
     have e2:cellOf env y.1=pure c:=by unfold cellOf;rw[hc]
     rw[e1,e2]
     exact e
    ·rcases h1 x c' e' with ⟨c2,z⟩|⟨z,m,q⟩
     ·rw[Dl] at z
      cases hb:x == y.1 with
      | true=>exact .inr ⟨y,BR,(Dc.mp hb).symm,hy⟩
      | false=>rw[hb] at z;exact .inl ⟨c2,z⟩
     ·exact .inr ⟨z,BQ _ m,q⟩
   ·obtain⟨cl,e,h1⟩:=ih cs (λ z hz=>hn z (BQ _ hz))
    refine⟨cl,?_,λ x c' e'=>?_⟩
    ·rw[Ea]
     have e1:(y.2 == NameKind.free)=false:=by simpa using hy
     rw[e1]
     exact e
    ·rcases h1 x c' e' with z|⟨z,m,q⟩
     ·exact .inl z
     ·exact .inr ⟨z,BQ _ m,q⟩
 obtain⟨cl,e,h1⟩:=go sc.names [] h
 refine⟨cl,?_,λ x c e=>(h1 x c e).elim (λ⟨_,z⟩=>by simp at z) id⟩
 have e2:closureFor sc env=((forIn sc.names [] λ(x:Str×NameKind) (r:List (Str×Addr))=>(if (x.2 == NameKind.free)=true then do let c <- cellOf env x.1;pure (ForInStep.yield ((x.1,c)::r)) else pure (ForInStep.yield r):Sem (ForInStep (List (Str×Addr))))) >>= λ s=>pure s):=rfl
 rw[e2,e]
 rfl
noncomputable def p9 (H:Hp) (P:Addr) (pos:Pos) (qual:Str):Prop:=
 H P=some (.tbl #[])\/∃ c' oc vs t,H P=some (.tbl #[rawInt pos.line,rawInt pos.col,.ref c'])/\H c'=some (.frz oc (.own c'))/\oc.data=.fields vs/\vs[1]? = some (.str qual t)
theorem p9.get (t:p9 H P pos qual):∃ ps,H P=some (.tbl ps):=by
 rcases t with t|⟨_,_,_,_,t,_⟩<;>exact⟨_,t⟩
noncomputable def oh (P:Addr) (H H':Hp):Prop:=∀ b o,b≠P->H b=some o->H' b=some o
structure Tab (mg:Str->Option Value) (base:Heap) (c P:Addr):Prop where
 code:PySem.W.CodeHd base c P
 blt:base.BuiltinsAt mg P
 ne:mainGlobals≠P
section
variable {P:Program}{w:World}{H H1:Hp}{h h':Heap}{T:Addr}{ps more:Array Value}{fs:List Addr}
theorem grown (J:H T=some (.tbl ps)) (U:HOk P w H h) (a:oh T H H1) (b:∀ x,x≠T->H x=none->x<h.objs.size->H1 x=none) (c:∀ x o,x≠T->h.get? x=some o->h'.get? x=some o)
  (d:H1 T=some (.tbl (ps++more))) (O:h'.get? T=some { cls:=.none,data:=.fields (ps++more) }) (e:∀ x o,H x=none->H1 x=some o->bo P w H1 h' x o):Un fs [] H H1 h h'/\HOk P w H1 h':=by
 have G:∀ x,H x=none->x≠T:=λ x n z=>by rw[z,J] at n;cases n
 have j:∀ x o,H x=some o->(∀ q,o≠.tbl q)->x≠T:=λ x o n q z=>by rw[z,J] at n;cases n;exact q _ rfl
 refine⟨⟨λ x o q n _ _=>c x o (G x n) q,λ x o q n _ _=>⟨o.slots,c x o (G x n) q⟩,λ x o q n _=>b x (G x n) n (Heap.lt_size q),λ x o q _=>?_,λ x xs q=>a x _ (j x _ q λ _=>by simp) q,λ x o u q=>a x _ (j x _ q λ _=>by simp) q,λ x V q=>?_⟩,λ x o q=>?_⟩
 ·by_cases F:x=T
  ·subst F;exact⟨_,O⟩
  ·exact⟨o,c x o F q⟩
 ·by_cases F:x=T
  ·subst F;rw[J] at q;cases q;exact⟨more,d⟩
  ·exact⟨#[],by rw[a x _ F q];simp⟩
 ·by_cases F:x=T
  ·subst F
   rw[d] at q;cases q
   exact O
  ·cases L:H x with
   | none=>exact e x o L q
   | some o'=>
    have z:=a x o' F L
    rw[q] at z;cases z
    refine(U x o L).iT (λ y u M r=>c y u ?_ r) (λ y r=>a y _ (j y _ r λ _=>by simp) r) λ y xs r=>a y _ (j y _ r λ _=>by simp) r
    rcases M with rfl|M
    ·exact F
    ·exact j y _ M λ _=>by simp
end
noncomputable def PM (X:Cx) (body:List Stmt) (t:TE):Prop:=
 ∀ (s:Shared) (σ:St) (H:Hp) (Q:VK),Inv X [] σ H s->t σ H Q->wpAny (model X.prog X.w) X.A (execs body X.env)
  (λ fl s'=>∃ u v H',fl=.ret u/\s'.os=X.s₀.os/\AllBare s'.gens/\Un X.fs X.ex X.H₀ H' X.s₀.heap s'.heap/\HOk X.prog X.w H' s'.heap/\RelV v u/\Q v H') X.xe s
noncomputable def Be (t:TS) (u:TE):TE:=λ σ H Q=>t { nx:=λ σ' H'=>u σ' H' Q,rt:=λ _ _=>False } σ H
theorem j0 {X:Cx}{st:Stmt}{rest:List Stmt}{t:TS}{u:TE}(h1:PS X st t) (h2:PM X rest u):PM X (st::rest) (Be t u):=by
 intro s σ H Q I h
 refine E0 (thn (h1 [] s σ H _ I h) λ f F q=>?_)
 cases f with
 | next=>
  obtain⟨j,H',z,q⟩:=q
  exact h2 F j H' Q z q
 | ret v=>obtain⟨_,_,_,_,_,q⟩:=q;exact False.elim q
 | brk=>obtain⟨_,_,_,q⟩:=q;exact False.elim q
 | cont=>obtain⟨_,_,_,q⟩:=q;exact False.elim q
theorem Aj {CX:CXT}{P:Program}{w:World}{K:PySem.W.Frag}{mg:Str->Option Value}{base:Heap}{k:Nat}{f:Addr}{name qual:Str}{j:Arguments}{F:List Stmt}{scope:Scope}{dV kV L pm z ct oc:Value}{an od:Option Addr}
  {a2:Array (Option Value)}{N ps:List Str}{sp:Sp}(lk:K.lookup f=some ⟨oc,od,.func (PySem.W.fnOf name qual j F scope dV kV L pm an z ct),a2⟩) (W:PySem.W.codeIn K z qual=true) (S:aQ N ps scope)
  (U:∀ vs H Q E,sp vs H Q E->vs.length=ps.length)
  (G:∀ (A:Around) (outer:List Env) (s:Shared) (H:Hp) (vs:List V) (Q:VK) (E:XK),cB k (A.deeper (envOfC qual scope s.heap.objs.size f z))->sp vs H Q E ->
   ∃ t,PM (dN CX P w K mg base N qual scope f z A outer s H E).nox F t/\t (start N vs) H Q) :
  bB P w K mg base CX (k+1) f (PySem.W.fnOf name qual j F scope dV kV L pm an z ct) ps sp:=by
 refine⟨U,λ A outer s H a3 us vs Q E Y M hb r O=>?_⟩
 have hl:=U _ _ _ _ O
 have KX:K.In s.heap:=M.mod.kin.keeps λ b o e=>(M.bs b o e).1
 have a1:s.heap.NoLimit:=M.mod.nolimit.keeps λ b o e=>(M.bs b o e).1
 have J:∀ y∈ps.zip us,scope.names.lookup y.1=some .local\/(scope.names.lookup y.1=some .cell/\((cellsFrom (s.heap.objs.size+1) scope.names []).lookup y.1).isSome=true):=λ⟨n,v⟩ hy=>by
  rcases S.par n (EB hy).1 with q|q
  ·exact .inl q
  ·exact .inr ⟨q,E7 _ _ _ (.inl q)⟩
 refine codeAny_call_function Y.depth (KX _ _ lk) rfl S.co S.gen rfl (PySem.W.codeRec_of KX W) (hb _ _ _ _ ?_)
 refine wpAny_newFunctionEnv_cells S.kind J λ a4 he s1 x=>?_
 subst he
 refine⟨a1.keeps x.toInCall.keep,codeAny_func ?_⟩
 obtain⟨t,ht,hq⟩:=G A outer s H vs Q E (Y.deeper _) O
 have I:Inv (dN CX P w K mg base N qual scope f z A outer s H E) [] (start N vs) H s1:=jN S Y.hd M hl r x
 refine Cw (ht s1 (start N vs) H Q (I.g8 _) hq) (λ fl s' Z=>?_) λ e s' Z=>False.elim Z
 obtain⟨u,v,H',rfl,o1,o2,o3,o4,o5,o6⟩:=Z
 exact⟨v,H',o1,o2,o3,o4,o5,o6⟩
theorem Fun.okM {CX:CXT}{P:Program}{w:World}{K:PySem.W.Frag}{mg:Str->Option Value}{base:Heap}{x qual:Str}{st:Stmt}{f c:Addr}{fd:FuncData}{N ps:List Str}{k:Nat}{sp:Sp}(F:Fun K x qual st f fd) (L:fd.code=.ref c) (S:aQ N ps (aM st)) (G:∀ vs H Q E,sp vs H Q E->vs.length=ps.length)
  (j:∀ (A:Around) (outer:List Env) (s:Shared) (H:Hp) (vs:List V) (Q:VK) (E:XK),cB k (A.deeper (envOfC qual (aM st) s.heap.objs.size f (.ref c)))->sp vs H Q E ->
   ∃ t,PM (dN CX P w K mg base N qual (aM st) f (.ref c) A outer s H E).nox (dW st) t/\t (start N vs) H Q):bB P w K mg base CX (k+1) f fd ps sp:=by
 obtain⟨Z,od,Y,J,pm,U,q,W,O,rfl,M,z⟩:=F.ex
 obtain rfl:q=.ref c:=L
 exact Aj M z S G j
theorem vR {F N:List Str}{ix:List Nat}(h:ix.map (λ i=>N[i]?)=F.map some):∀ (j:Nat) x,F[j]? = some x->∃ G,ix[j]? = some G/\N[G]? = some x:=λ j x e=>by
 have z:(F.map some)[j]? = some (some x):=by rw[BC,e];rfl
 rw[<- h,BC] at z
 cases q:ix[j]? with
 | none=>rw[q] at z;cases z
 | some i=>rw[q] at z;exact⟨i,rfl,by simpa using z⟩
noncomputable def inDef (s:Stmt) (j:Nat):Stmt:=(dW s).getD j (.Pass ⟨0,0,0,0⟩)
theorem pD {P:Program}{w:World}{K:PySem.W.Frag}{mg mb:Str->Option Value}{CX:CXT}{k:Nat}{fa a:Addr}{fd:FuncData}{x:Str}{sp:Sp}{j:Shared}{vs:List Value}{ns:List Int}{tabs:List (Addr×Addr)}
  (KX:K.In j.heap) (W:j.heap.Ns mainGlobals mg) (J:j.heap.Ns builtinsNs mb) (ai:∀ x:Str,x ≠ "__name__" -> mb x=bootBuiltins x) (a8:j.heap.NoLimit) (hg:j.gens = #[])
  (aj:∃ bm ob,mg "__builtins__" = some (.ref bm)/\bm≠builtinsNs/\j.heap.get? bm=some ob/\ob.cls=.type "module" /\ ob.dict=some builtinsNs/\ob.data=.plain)
  (hT:PySem.W.TabsAt tabs j.heap) (ag:∀ q∈tabs,K.lookup q.2=none)
  (ha:j.heap.get? a=some { cls:=.type "list",data:=.seq vs.toArray }) (hi:IntsAre vs ns) (hl:ns.length<=sizeLine) (hr:cB k callerA)
  (F:∀ base:Heap,K.In base->base.Ns mainGlobals mg->(∀ q∈tabs,Tab mg base q.1 q.2)->bB P w K mg base CX k fa fd [x] sp) (a4:∀ (s:Shared) (u:Value),BindsTo s fd ⟨[u],[]⟩ [(x,u)])
  (ak:∀ H:Hp,(∀ q∈tabs,H q.2=some (.tbl #[]))->SqL K H a (ns.map V.int)->sp [.ref a] H (λ v _=>v=.bl true) λ _ _ _=>False)
  (ae:∀ H e s',CX [] H j (λ _ _ _=>False) e s'->False) :
  codeAny (model P w) callerA (.call (.ref fa) ⟨[.ref a],[]⟩) (λ r s'=>r=.ok (.ret (.bool true))/\OldK j.heap s'.heap/\s'.os=j.os/\AllBare s'.gens) j:=by
 have rv:=jD hi
 have aa:=hi.length
 have aT:a∉tabs.map (·.2):=λ m=>by
  obtain⟨q,M,e⟩:=BV.mp m
  have:=(hT q M).2
  rw[e,ha] at this;cases this
 have Z:∀ H:Hp,(∀ b,H b=none\/(∃ o xs,H b=some (.frz o (.lst xs)))\/(b∈tabs.map (·.2)/\H b=some (.tbl #[])))->(∀ q∈tabs,H q.2=some (.tbl #[]))->SqL K H a (ns.map V.int)->HOk P w H j.heap->(∀ b,H b≠none->b=a\/b∈tabs.map (·.2))->(H a≠none->K.lookup a=none) ->
   codeAny (model P w) callerA (.call (.ref fa) ⟨[.ref a],[]⟩) (λ r s'=>r=.ok (.ret (.bool true))/\OldK j.heap s'.heap/\s'.os=j.os/\AllBare s'.gens) j:=by
  intro H hO af hS a9 hA hK
  have G:∀ {b:Addr} {o:Obj},j.heap.get? b=some o->H b=none->(jm j.heap H).get? b=some o:=λ e n=>sD e n
  have ad:∀ {b:Addr} {o:Obj},j.heap.get? b=some o->H b≠none->o.cls=.type "list" \/ o=PySem.W.tabObj #[]:=λ{b o} e n=>by
   rcases hA b n with z|z
   ·subst z;rw[ha] at e;cases e;exact .inl rfl
   ·obtain⟨q,M,rfl⟩:=BV.mp z
    have:=(hT q M).2
    rw[e] at this;cases this;exact .inr rfl
  have am:∀ {b:Addr} {o:Obj},j.heap.get? b=some o->o.cls≠.type "list" -> (∀ q,o.data≠.fields q)->H b=none:=λ{b o} e d1 d2=>by
   cases q:H b with
   | none=>rfl
   | some u=>
    rcases ad e (by rw[q];simp) with z|z
    ·exact absurd z d1
    ·rw[z] at d2;exact absurd rfl (d2 #[])
  have an:∀ {b:Addr} {o:Obj} {es:Array DictEntry} {ep:Nat},j.heap.get? b=some o->o.data=.dict es ep->H b=none:=λ{b o es ep} e d=>by
   cases q:H b with
   | none=>rfl
   | some u=>
    rcases hA b (by rw[q];simp) with z|z
    ·subst z;rw[ha] at e;cases e
     have d':Data.seq vs.toArray _=Data.dict es ep:=d
     cases d'
    ·obtain⟨r,O,rfl⟩:=BV.mp z
     have:=(hT r O).2
     rw[e] at this;cases this
     have d':Data.fields #[]=Data.dict es ep:=d
     cases d'
  have Y:∀ {b:Addr} {m:Str->Option Value},j.heap.Ns b m->(jm j.heap H).Ns b m:=λ{b m} ⟨o,es,ep,e,d,r⟩=>⟨o,es,ep,G e (an e d),d,r⟩
  have a7:K.In (jm j.heap H):=λ b o e=>G (KX b o e) (by
   cases q:H b with
   | none=>rfl
   | some u=>
    rcases hA b (by rw[q];simp) with e'|z
    ·subst e'
     rw[hK (by rw[q];simp)] at e;cases e
    ·obtain⟨r,O,rfl⟩:=BV.mp z
     rw[ag r O] at e;cases e)
  have hM:Mod K mg (jm j.heap H):=⟨a7,Y W,⟨mb,Y J,ai⟩,let ⟨mc,h1,h2⟩:=a8;⟨mc,Y h1,h2⟩⟩
  have ah:∀ q∈tabs,Tab mg (jm j.heap H) q.1 q.2:=λ q M=>by
   obtain⟨⟨o,ws,a6,tf,a3,tg,al,ab,tt,e1,r1,r2,r3⟩,e2⟩:=hT q M
   have n1:H q.1=none:=by
    cases z:H q.1 with
    | none=>rfl
    | some u=>
     rcases ad e1 (by rw[z];simp) with z|z
     ·rw[r1] at z;exact absurd z (by simp)
     ·rw[z] at r1;exact absurd r1 (by simp[PySem.W.tabObj])
   obtain⟨bm,ob,b1,b2,b3,b4,b5,b6⟩:=aj
   have n2:H bm=none:=am b3 (by rw[b4];decide) (λ z=>by rw[b6];simp)
   refine⟨⟨o,ws,a6,tf,a3,tg,al,ab,tt,G e1 n1,r1,r2,r3⟩,⟨bm,ob,b1,b2,λ z=>?_,λ z=>?_,G b3 n2,b4,b5,b6⟩,λ z=>?_⟩
   ·obtain⟨og,es,ep,g1,g2,_⟩:=W
    rw[<- z,b3] at g1;cases g1;rw[b6] at g2;cases g2
   ·rw[z,e2] at b3;cases b3;cases b4
   ·obtain⟨og,es,ep,g1,g2,_⟩:=W
    rw[z,e2] at g1;cases g1;cases g2
  have e0:j8 P w K mg (jm j.heap H) callerA [] j H:=⟨rfl,hM,λ b o e=>tG e,Ek (pH _ _),trivial,λ b J=>absurd (show b∈([]:List Addr) from J) (by simp),a9,.of_eq hg⟩
  refine EF ((F _ a7 (Y W) ah).run callerA [] j H ⟨[.ref a],[]⟩ [.ref a] [.ref a] _ _ hr e0 (a4 j (.ref a)) (.cons rfl .nil) (ak H af hS)) λ r s' h=>?_
  cases r with
  | error e=>exact(ae H e s' h).elim
  | ok fl=>
   cases fl with
   | next=>exact False.elim h
   | brk=>exact False.elim h
   | cont=>exact False.elim h
   | ret u=>
    obtain⟨v,H',os,a5,un,a1,r',q⟩:=h
    have q':v=.bl true:=q
    subst q'
    obtain rfl:u=Value.bool true:=r'
    have a2:∀ b o,j.heap.get? b=some o->s'.heap.get? b=some o\/(isCodeTable j.heap b/\o=PySem.W.tabObj #[]/\∃ ps,s'.heap.get? b=some (PySem.W.tabObj ps)):=λ b o e=>by
     cases q:H b with
     | none=>exact .inl (un.keep b o e q (by intro z;exact absurd (show b∈([]:List Addr) from z) (by simp)) (by simp))
     | some u=>
      rcases hO b with z|⟨ob,xs,z⟩|⟨m,z⟩
      ·rw[q] at z;cases z
      ·have z2:=un.frzs b ob _ z
       obtain⟨e1,_⟩:=a9 b _ z
       obtain⟨e2,_⟩:=a1 b _ z2
       rw[e] at e1;cases e1
       exact .inl e2
      ·obtain⟨r,O,rfl⟩:=BV.mp m
       obtain⟨more,z2⟩:=un.tbls _ _ z
       have e2:s'.heap.get? r.2=some (PySem.W.tabObj (#[]++more)):=a1 _ _ z2
       have e3:=(hT r O).2
       rw[e] at e3
       exact .inr ⟨((hT r O).1.tab (hT r O).2).isCodeTable,Option.some.inj e3,_,e2⟩
    refine⟨rfl,⟨λ b o e=>?_,λ b o e=>?_⟩,os,a5⟩
    ·rcases a2 b o e with z|⟨t,rfl,ps,hP⟩
     ·exact .inl z
     ·exact .inr (.inl ⟨t,rfl,#[],ps,rfl,by rw[Array.empty_append];exact hP⟩)
    ·rcases a2 b o e with z|⟨t,rfl,ps,hP⟩
     ·exact⟨o,z⟩
     ·exact⟨_,hP⟩
 have U:∀ q∈tabs,j.heap.get? q.2=some { cls:=.none,data:=.fields #[] }:=λ q M=>(hT q M).2
 classical
 cases hk:K.lookup a with
 | some o=>
  have e:=KX a o hk
  rw[ha] at e
  cases e
  refine Z (λ b=>if b∈tabs.map (·.2) then some (.tbl #[]) else none) (λ b=>?_) (λ q M=>BN (BX M)) (.inr ⟨_,vs.toArray,_,hk,rfl,rfl,rfl,by rw[B9,aa];exact hl,by simpa using rv⟩) (λ b u z=>?_) (λ b z=>?_) λ z=>absurd (BI aT) z
  ·by_cases J:b∈tabs.map (·.2)
   ·exact .inr (.inr ⟨J,BN J⟩)
   ·exact .inl (BI J)
  ·by_cases J:b∈tabs.map (·.2)
   ·have z':=(BN J).symm.trans z
    cases z'
    obtain⟨q,M,rfl⟩:=BV.mp J
    exact U q M
   ·have z':=(BI J).symm.trans z
    cases z'
  ·by_cases J:b∈tabs.map (·.2)
   ·exact .inr J
   ·exact absurd (BI J) z
 | none=>
  refine Z (λ b=>if b=a then some (.frz { cls:=.type "list",data:=.seq vs.toArray } (.lst (ns.map V.int))) else if b∈tabs.map (·.2) then some (.tbl #[]) else none) (λ b=>?_) (λ q M=>?_) (.inl (.inr ⟨{ cls:=.type "list",data:=.seq vs.toArray },BN rfl⟩)) (λ b u z=>?_) (λ b z=>?_) λ _=>hk
  ·by_cases J:b=a
   ·exact .inr (.inl ⟨_,_,BN J⟩)
   ·by_cases L:b∈tabs.map (·.2)
    ·exact .inr (.inr ⟨L,by rw[BI J,BN L]⟩)
    ·exact .inl (by rw[BI J,BI L])
  ·show (if q.2=a then _ else _)=_
   rw[BI (λ z:q.2=a=>aT (by rw[<- z];exact BX M)),BN (BX M)]
  ·by_cases J:b=a
   ·have z':=(BN J).symm.trans z
    cases z'
    subst J
    exact⟨ha,by rw[BB];exact hl,vs,_,rv,ha⟩
   ·have z':=(BI J).symm.trans z
    by_cases L:b∈tabs.map (·.2)
    ·have z2:=(BN L).symm.trans z'
     cases z2
     obtain⟨q,M,rfl⟩:=BV.mp L
     exact U q M
    ·have z2:=(BI L).symm.trans z'
     cases z2
  ·by_cases J:b=a
   ·exact .inl J
   ·by_cases L:b∈tabs.map (·.2)
    ·exact .inr L
    ·exact absurd (by rw[BI J,BI L]) z
theorem qD {l:PySem.W.OpenLaw}{n k:Nat}{q:Program}{M:List Str}{XP:(Str->Option Value)->Heap->Prop}{YP:World->Heap->Prop}{d:DefRec}{K:Params->PySem.W.Frag}{CX:World->CXT}{sp:World->Sp}{x:Str}(ts:List Addr)
  (hn:l.most=some n) (a5:n<=sizeLine) (a3:d.params.defaults=[]) (hr:cB k callerA)
  (hY:∀ (w:World) (h:Heap),YP w h->(K w.params).In h) (hT:∀ (w:World) (h:Heap),YP w h->∀ P∈ts,h.get? P=some (PySem.W.tabObj #[]))
  (F:∀ (w:World) (mg:Str->Option Value) (Z:Addr) (h:Heap),(K w.params).In h->h.Ns mainGlobals mg->mg d.name=some (.ref Z) ->
   ∃ (fd:FuncData) (tabs:List (Addr×Addr)),(∀ q∈tabs,PySem.W.codeHdIn (K w.params) q.1 q.2=true/\(K w.params).lookup q.2=none/\q.2∈ts)/\(∀ P∈ts,P∈tabs.map (·.2))/\(∀ (s:Shared) (u:Value),BindsTo s fd ⟨[u],[]⟩ [(x,u)]) /\
    ∀ base:Heap,(K w.params).In base->base.Ns mainGlobals mg->(∀ q∈tabs,Tab mg base q.1 q.2)->bB l.prog w (K w.params) mg base (CX w) k Z fd [x] (sp w))
  (a6:∀ (w:World) (H:Hp) (a:Addr) (ns:List Int),ns.length<=n->(∀ P∈ts,H P=some (.tbl #[]))->SqL (K w.params) H a (ns.map V.int)->sp w [.ref a] H (λ v _=>v=.bl true) λ _ _ _=>False)
  (a1:∀ (w:World) (H:Hp) (s:Shared) (e:Value) (s':Shared),CX w [] H s (λ _ _ _=>False) e s'->False) :
  PySem.W.WalkO q M XP YP l.row.toRowW d [] (λ f vs=>PySem.call f vs):=by
 refine Att.mn hn a3 λ w s₀ z mg mb Z o pm cd a7 a vs ns G Y ho hd a8 a4 W L j hg=>?_
 have KX:=hY w _ Y
 obtain⟨fd,tabs,J,U,hb,hF⟩:=F w mg Z _ KX G.T.g a4
 have a2:PySem.W.TabsAt tabs z.heap:=λ q O=>⟨PySem.W.codeHd_of_K KX (J q O).1,hT w _ Y _ (J q O).2.2⟩
 exact pD (tabs:=tabs) KX G.T.g G.T.b G.T.builtins G.T.nolimit hg G.T.bmain a2 (λ q O=>(J q O).2.1) W L (B6 j a5) hr hF hb
  (λ H hH hS=>a6 w H a ns j (λ P hP=>by
   obtain⟨q,O,rfl⟩:=BV.mp (U P hP)
   exact hH q O) hS) λ H e s'=>a1 w H z e s'
section
variable {X:Cx}{K:PySem.W.Frag}
theorem rR (U:xs.length<=1000)
  (h:∀ acc,H1 acc=none->∃ F:Nat->St->List V->Hp->Prop,F 0 (σ++List.replicate k none) [] (upd H1 acc (.lst []))/\(∀ i j ys H2,i<=xs.length->F i j ys H2->SqT K H2 a xs/\ys.length<=i) /\
   (∀ i x j ys H2,i<xs.length->xs[i]? = some x->F i j ys H2->g x j H2 λ z O=>tc z O λ b L=>if b=true then te z L λ v M=>M acc=some (.lst ys)/\Nx xs.length i (F (i+1) z (ys++[v]) (upd M acc (.lst (ys++[v])))) else Nx xs.length i (F (i+1) z ys L)) /\
   ∀ j ys H2,F xs.length j ys H2->Q (.ref acc) H2):gS (Itt K a) k g tc te σ H1 Q:=by
 intro acc W
 obtain⟨F,Y,pl,ps,Z⟩:=h acc W
 refine⟨λ i m j ys H2=>m=xs.length-i/\i<=xs.length/\F i j ys H2,⟨xs.length,by simp,Cf _,Y⟩,?_⟩
 rintro i m j ys H2 ⟨rfl,hi,p⟩
 obtain⟨q,J⟩:=pl i j ys H2 hi p
 by_cases G:i<xs.length
 ·refine .inr ⟨⟨xs,xs[i],q,by simp[G]⟩,CQ J (bg (by lia)),λ x H3 y=>?_⟩
  obtain⟨e,y⟩:=y
  subst e
  exact ps i x j ys _ G (y xs q) p
 ·have e:i=xs.length:=by lia
  subst e
  exact .inl ⟨⟨xs,q,Nat.le_refl _⟩,Z j ys H2 p⟩
end
section
variable {X:Cx}{pr:Params}{a:Addr}{kvs:List (Str×Int)}{name:Str}{i:Expr}{ty:TE}{p pos:Pos}
end
section
variable {X:Cx}{K:PySem.W.Frag}
end
section
open PySem.Builtin PySem.Builtin.Str
end
section
variable {X:Cx}
end
noncomputable def Asc (x:Str):Prop:=∀ c∈x.cps.toList,c<128
end L2
namespace PySem
section
variable {prog:Program}{w:World}{K:Type} [DecidableEq K] {knd:HeapKind prog w K}{A:Around}{E:Value->Shared->Prop}{s:Shared}
theorem fH (f:α->β):∀ (l:List α) (j:Nat),(l.map f).eraseIdx j=(l.eraseIdx j).map f
 | [],_=>by simp
 | x::r,0=>by simp
 | x::r,j+1=>by simp[fH f r j]
theorem jo {xs:List (K×Addr×Value)}(q:(xs.map (·.1)).Nodup):∀ {j:Nat}{k:K}{p:Addr×Value},xs[j]? = some (k,p)->xs.eraseIdx j=xs.filter λ x=>decide (x.1≠k):=by
 induction xs with
 | nil=>intro j k p h;simp at h
 | cons x r G=>
  intro j k p h
  rw[Ce,CC] at q
  cases j with
  | zero=>
   simp only[List.getElem?_cons_zero,Option.some.injEq] at h
   subst h
   rw[List.eraseIdx_cons_zero,Ej (by simp)]
   rw[List.filter_eq_self.mpr]
   intro y F
   refine Cu λ e=>q.1 (BV.mpr ⟨y,F,e⟩)
  | succ j=>
   simp only[List.getElem?_cons_succ] at h
   have z:k∈r.map (·.1):=BV.mpr ⟨(k,p),BJ h,rfl⟩
   have J:x.1≠k:=λ e=>q.1 (by rw[e];exact z)
   rw[List.eraseIdx_cons_succ,G q.2 h,Ei (p:=λ x:K×Addr×Value=>decide (x.1≠k)) (by simpa using J)]
theorem kK {d a:Addr}{xs:List (K×Addr×Value)}{k:K}{p:Addr×Value}{Q:Option DictEntry->Shared->Prop}(hu:knd.room A) (z:knd.is s.heap k a) (hm:s.heap.DictOfH knd d xs) (V:atKey xs k=some p)
  (F:∀ h',h'.DictOfH knd d (xs.filter λ x=>decide (x.1≠k))->Heap.SameBut d s.heap h'->Q (some ⟨knd.hash k,.ref p.1,p.2⟩) { s with heap:=h',toks:=s.toks+knd.draws k })
  (hsz:xs.length<=sizeLine):wpAny (model prog w) A (Builtin.Dict.takeOut d (.ref a)) Q E s:=by
 obtain⟨o,es,ep,M,hc,G,J,L,U⟩:=hm
 unfold Builtin.Dict.takeOut
 try with_reducible refine CD ?_
 refine Bx (knd.pyHash hu z ?_)
 refine Bx (wpAny_dictFind_heap (s:={ s with toks:=s.toks+knd.draws k }) hu z M G J L U ?_ ?_)
 ·intro Z
  rw[atKey_none_of_get Z] at V
  cases V
 ·intro j q O
  have W:q=p:=by rw[atKey_of_get U O] at V;exact Option.some.inj V
  subst W
  refine Bx (CZ (s:={ s with toks:=s.toks+knd.draws k }) M G ?_)
  rw[entry_at J j,O]
  refine Bx (wpAny_updateDictKeys (hz:=by have e:=DC J;lia) (s:={ s with toks:=s.toks+knd.draws k }) M G (BA (F _ ⟨_,_,ep+1,Heap.get?_update_self _ M (Obj.isFreed_of_dict (Obj.data_mapDictKeys G _)),
   hc.mapDictKeys _,Obj.data_mapDictKeys G _,?_,?_,?_⟩ (Heap.SameBut.update ..))))
  ·rw[<- jo U O]
   have Y:j<es.size:=by
    rw[DC J]
    exact(BE.mp O).1
   show (es.eraseIdxIfInBounds j).toList=_
   rw[Array.eraseIdxIfInBounds,dif_pos Y,Array.toList_eraseIdx,J,fH]
  ·intro x hx
   exact knd.keeps (L x (Cy.mp hx).1) M G (Heap.SameBut.update ..)
  ·exact(List.filter_sublist.map _).nodup U
theorem g9 (knd:HeapKind prog w K) (d a) :
  MeetsIn prog w (Builtin.«dict.pop» ⟨[.ref d,.ref a],[]⟩) (λ A R s=>knd.room A.in1/\∃ k xs p,knd.is s.heap k a/\s.heap.DictOfH knd d xs/\xs.length<=sizeLine/\atKey xs k=some p /\
   ∀ h',h'.DictOfH knd d (xs.filter λ x=>decide (x.1≠k))->Heap.SameBut d s.heap h'->R (.ok (.ret p.2)) { s with heap:=h',toks:=s.toks+knd.draws k }):=
 .of_wp λ A R s ⟨W,k,xs,p,j,q,J,L,h⟩=>by
  unfold Builtin.«dict.pop»
  refine Bx ?_
  unfold Builtin.Dict.keyAndDefault
  refine Bx (Er q.typeIs ?_)
  show wpAny _ _ (pure (d,Value.ref a,none)) _ _ s
  refine BA ?_
  obtain⟨o,es,ep,V,Z,M,O,U,hn⟩:=id q
  have Y:es.isEmpty=false:=by
   have:es.size≠0:=by
    rw[DC O]
    intro z
    rw[List.length_eq_zero_iff.mp z] at L
    cases L
   simp[Array.isEmpty,this]
  simp only[show (keyPart (Value.ref a)).isSome=false from rfl,B0,CJ]
  refine Bx (CZ V M ?_)
  refine Bx (BA ?_)
  rw[Y]
  simp only[B0,CJ]
  refine Bx (kK W j q L (λ h' F G=>?_) J)
  simp only[Option.isNone_some,B0,CJ]
  exact Bx (Fm (BA ⟨_,rfl,h h' F G⟩))
theorem fF (W:knd.room A) (q:knd.is s.heap k a) (hm:s.heap.DictOfH knd d xs)
  (h1:∀ p,atKey xs k=some p->Q p.2 { s with toks:=s.toks+knd.draws k })
  (h2:atKey xs k=none->∀ h',h'.DictOfH knd d (xs++[(k,a,dflt)])->Heap.SameBut d s.heap h'->Q dflt { s with heap:=h',toks:=s.toks+knd.draws k })
  (hsz:xs.length<=sizeLine):wpAny (model prog w) A (dictSetDefault d (.ref a) dflt) Q E s:=by
 obtain⟨o,es,ep,G,Z,F,O,J,U⟩:=hm
 unfold dictSetDefault
 try with_reducible refine CD ?_
 refine Bx (knd.pyHash W q ?_)
 refine Bx (wpAny_dictFind_heap (s:={ s with toks:=s.toks+knd.draws k }) W q G F O J U ?_ ?_)
 ·intro L
  have M:k∉xs.map (·.1):=not_mem_keys_of_get L
  refine Bx (Dk (Bx (wpAny_updateDictKeys (hz:=by have e:=DC O;lia) (s:={ s with toks:=s.toks+knd.draws k }) G F (BA (h2 (atKey_none_of_get L) _ ⟨_,_,ep+1,Heap.get?_update_self _ G (Obj.isFreed_of_dict (Obj.data_mapDictKeys F _)),
   Z.mapDictKeys _,Obj.data_mapDictKeys F _,?_,?_,?_⟩ (Heap.SameBut.update ..))))))
  ·simp[O,entryOfKey]
  ·intro x z
   rcases BH.mp z with z|z
   ·exact knd.keeps (J x z) G F (Heap.SameBut.update ..)
   ·simp only[BD] at z
    subst z
    exact knd.keeps q G F (Heap.SameBut.update ..)
  ·rw[B7,Cq]
   refine⟨U,by simp,?_⟩
   intro x z y Y
   simp only[Ce,FH,BD] at Y
   subst Y
   exact λ e=>M (e ▸ z)
 ·intro j p V
  refine Bx (CZ (s:={ s with toks:=s.toks+knd.draws k }) G F ?_)
  rw[entry_at O j,V]
  exact Bx (Dk (BA (h1 p (atKey_of_get U V))))
theorem dU (knd:HeapKind prog w K) (d a) (J:(d == sysModules)=false) (j) :
  MeetsIn prog w (Builtin.«dict.setdefault» ⟨[.ref d,.ref a,j],[]⟩) (λ A R s=>knd.room A.in1/\∃ k xs,knd.is s.heap k a/\s.heap.DictOfH knd d xs/\xs.length<=sizeLine /\
   (∀ p,atKey xs k=some p->R (.ok (.ret p.2)) { s with toks:=s.toks+knd.draws k }) /\
   (atKey xs k=none->∀ h',h'.DictOfH knd d (xs++[(k,a,j)])->Heap.SameBut d s.heap h'->R (.ok (.ret j)) { s with heap:=h',toks:=s.toks+knd.draws k })):=
 .of_wp λ A R s ⟨M,k,xs,q,G,U,h1,h2⟩=>by
  unfold Builtin.«dict.setdefault»
  refine Bx ?_
  unfold Builtin.Dict.keyAndDefault
  refine Bx (Er G.typeIs ?_)
  show wpAny _ _ (pure (d,Value.ref a,some j)) _ _ s
  refine BA ?_
  show wpAny _ _ (if (d == sysModules)=true then _ else (dictSetDefault d (.ref a) j >>= _)) _ _ s
  rw[BI (by rw[J];exact B4)]
  exact Bx (fF M q G (λ v O=>BA ⟨v.2,rfl,h1 v O⟩) (λ L h' z F=>BA ⟨j,rfl,h2 L h' z F⟩) U)
end
end PySem
namespace L2
open PySem PySem.Spec PyProof.Rows
theorem KT.drop (r:KT H kvs xs) (k):KT H (jt kvs k) (xs.filter λ x=>decide (x.1≠k)):=by
 unfold jt
 induction r with
 | nil=>exact .nil
 | @cons p q ps z h t j=>
  by_cases e:p.1=k
  ·rw[Ej (by simp[e]),Ej (by rw[<- h.1];simp[e])]
   exact j
  ·rw[Ei (by simp[e]),Ei (by rw[<- h.1];simp[e])]
   exact .cons h j
theorem KT.atKey (r:KT H kvs xs) (h:bL kvs k=some v):∃ p,PySem.atKey xs k=some p/\RelV v p.2:=by
 obtain⟨G,F,q⟩:=eu.some_of (v:=v) (o:=(PySem.atKey xs k).map (·.2)) (by rw[<- h];exact r.val k)
 obtain⟨p,z,j⟩:=E8.mp F
 exact⟨p,z,by rw[j];exact q⟩
section
variable {X:Cx}
theorem rh (I:Inv X pins σ H s) (e:H a=some (.dT kvs)) (M:(a == sysModules)=false) (hs:Heap.SameBut a s.heap h')
  (dd:h'.DictOfH (tupleKind (bO X.prog X.w)) a xs') (r:KT H kvs' xs') (O:kvs'.length<=sizeLine):Inv X pins σ (upd H a (.dT kvs')) { s with heap:=h',toks:=t' }:=by
 obtain⟨q,es,ep,F,h2,G,J,_,L⟩:=dd
 refine kO I (by rw[e];exact True.intro) hs ⟨q,F⟩ ⟨O,M,_,r.keeps λ c ys j=>?_,q,es,ep,F,h2,G,J,L⟩
 rw[aE (dG j e (λ z=>nomatch z))]
 exact j
noncomputable def xb:V->List V->Hp->VK->Prop:=λ x vs H Q=>∃ a b kvs k v,x=.ref a/\vs=[.ref b]/\H a=some (.dT kvs)/\H b=some (.tup (k.map kV))/\bL kvs k=some v/\Q v (upd H a (.dT (jt kvs k)))
theorem ui (U:X.A.units+1<cLine):MtM X "dict.pop" xb:=by
 intro pins s σ H x vs v us Q I rx Z h
 obtain⟨a,b,kvs,k,y,rfl,rfl,e,J,V,q⟩:=h
 cases rx
 obtain⟨u,rfl,Y⟩:=Z.one
 cases (show u=Value.ref b from Y)
 obtain⟨z,L,xs,j,G⟩:=rM I.hok e
 obtain⟨p,M,W⟩:=j.atKey V
 refine FE PySem.F.slot_dict_pop G.typeIs PySem.F.entry_dict_pop (PySem.F.args_dict_pop_2 _ _) (g9 (tupleKind (bO X.prog X.w)) a b)
  ⟨DQ U,k,xs,p,fK I.hok J,G,by rw[<- Paired.length j];exact z,M,λ h' F O=>⟨y,_,rh I e L O F (j.drop k) (B6 (sj kvs k) z),W,q⟩⟩
noncomputable def rD:V->List V->Hp->VK->Prop:=λ x vs H Q=>∃ a b kvs k y,x=.ref a/\vs=[.ref b,y]/\H a=some (.dT kvs)/\H b=some (.tup (k.map kV))/\kvs.length<sizeLine /\
 (∀ v,bL kvs k=some v->Q v H)/\(bL kvs k=none->Q y (upd H a (.dT (kvs++[(k,y)]))))
theorem mY (hu:X.A.units+1<cLine):MtM X "dict.setdefault" rD:=by
 intro pins s σ H x vs v us Q I rx rv h
 obtain⟨a,b,kvs,k,y,rfl,rfl,e,U,hl,q1,q2⟩:=h
 cases rx
 obtain⟨u,M,rfl,ru,J⟩:∃ u M,us=u::M/\RelV (.ref b) u/\Vals [y] M:=by cases rv with|cons a b=>exact⟨_,_,rfl,a,b⟩
 obtain⟨u2,rfl,q⟩:=J.one
 cases (show u=Value.ref b from ru)
 obtain⟨z,V,xs,j,O⟩:=rM I.hok e
 refine FE PySem.F.slot_dict_setdefault O.typeIs PySem.F.entry_dict_setdefault (PySem.F.args_dict_setdefault_3 _ _ _) (dU (tupleKind (bO X.prog X.w)) a b V u2)
  ⟨DQ hu,k,xs,fK I.hok U,O,by rw[<- Paired.length j];exact z,λ p Y=>?_,λ W h' F Z=>?_⟩
 ·have r:=j.val k
  rw[Y] at r
  obtain⟨v,hv,L⟩:∃ v,bL kvs k=some v/\RelV v p.2:=by
   cases h:bL kvs k with
   | none=>rw[h] at r;exact(show False from r).elim
   | some v=>rw[h] at r;exact⟨v,rfl,r⟩
  exact⟨v,H,I.tok _,L,q1 v hv⟩
 ·have G:bL kvs k=none:=by
   have r:=j.val k
   rw[W] at r
   cases h:bL kvs k with
   | none=>rfl
   | some v=>rw[h] at r;exact(show False from r).elim
  exact⟨y,_,rh I e V Z F (Paired.snoc j ⟨rfl,U,q⟩) (by rw[BL];show _+1<=_;lia),q,q2 G⟩
end
end L2
namespace PySem
section
variable {prog:Program}{w:World}{K:Type} [DecidableEq K] {knd:HeapKind prog w K}{A:Around}{E:Value->Shared->Prop}{s:Shared}
theorem lJ {es:List DictEntry}(q:(es.map (·.hash)).Nodup) {e:DictEntry}(j:e∈es):(es.filter (·.hash == e.hash)).length<=1:=by
 induction es with
 | nil=>cases j
 | cons x r G=>
  rw[Ce,CC] at q
  by_cases h:x.hash=e.hash
  ·rw[Ei (by simp[h]),Fb.mpr]
   ·simp
   ·intro y F z
    exact q.1 (BV.mpr ⟨y,F,by simpa [h] using z⟩)
  ·rw[Ej (by simp[h])]
   rcases BF.mp j with rfl|j
   ·exact absurd rfl h
   ·exact G q.2 j
theorem eG {id:String}{d:Addr}{o:Obj}{es ep}{Q:Array DictEntry->Shared->Prop}(M:s.heap.get? d=some o) (J:o.data=.dict es ep)
  (O:∀ e∈es.toList,∃ b,e.key=.ref b/\s.TypeIs (.ref b) "tuple") (L:(es.toList.map (·.hash)).Nodup) (h:Q es s) :
  wpAny (model prog w) A (Builtin.Dict.entriesForEmpty id d) Q E s:=by
 unfold Builtin.Dict.entriesForEmpty
 refine Bx (CZ M J ?_)
 refine Bx ?_
 rw[<- Array.forIn_toList]
 refine wpAny_forIn_list _ (λ rest _ s'=>s'=s/\∀ e∈rest,e∈es.toList) _ ?_ ?_ _ _ ⟨rfl,λ e j=>j⟩
 ·rintro x rest r s' ⟨rfl,q⟩
  obtain⟨b,z,G⟩:=O x (q x BR)
  refine Bx ?_
  rw[z]
  unfold Builtin.Dict.quietEq
  refine Bx (EA G F.slot_tuple_eq.lookup (BA ?_))
  have W:=lJ L (q x BR)
  have U:¬ (es.filter (·.hash == x.hash)).size>1:=by
   have V:(es.filter (·.hash == x.hash)).size=(es.toList.filter (·.hash == x.hash)).length:=by
    rw[<- BP,Array.toList_filter]
   lia
  rw[BN (by decide),BI U]
  exact BA ⟨rfl,λ e j=>q e (BQ _ j)⟩
 ·rintro r s' ⟨rfl,_⟩
  exact BA h
theorem iI (M:d≠o) (O:(o == sysModules)=false)
  (z:s.heap.get? d=some od) (q:od.data=.dict #[] epd) (F:s.heap.get? o=some oo) (j:oo.data=.dict es ep)
  (V:∀ e∈es.toList,∃ b,e.key=.ref b/\s.TypeIs (.ref b) "tuple") (Y:(es.toList.map (·.hash)).Nodup) (hsz:es.size<=sizeLine)
  (U:∀ h' od' J,h'.get? d=some od'->od'.data=.dict es J->(od.ExactDict->od'.ExactDict)->Heap.SameBut d s.heap h'->Q () { s with heap:=h' }) :
  wpAny (model prog w) A (Builtin.Dict.mergeDict nm d o) Q E s:=by
 unfold Builtin.Dict.mergeDict
 rw[BI (by simpa using M)]
 unfold Builtin.Dict.showsAll
 rw[BI (by rw[O];exact B4)]
 refine Bx (BA ?_)
 refine Bx (CZ F j ?_)
 dsimp only
 by_cases G:es = #[]
 ·subst G
  rw[BI (by simp)]
  refine Bx (Fe F j ?_)
  refine Bx (CZ F j ?_)
  refine Bx ?_
  rw[Std.Legacy.Range.forIn_eq_forIn_range']
  refine wpAny_forIn_list _ (λ rest _ s'=>s'=s/\rest=[]) _ ?_ ?_ _ _ ⟨rfl,rfl⟩
  ·rintro x rest r s' ⟨_,e⟩;cases e
  ·rintro r s' ⟨rfl,_⟩
   exact BA (U _ od epd z q id (Heap.SameBut.refl _ _))
 ·have L:(decide (es.size<=8) && es.all λ e=>(keyPart e.key).isSome)=false:=by
   have:(es.all λ e=>(keyPart e.key).isSome)=false:=by
    rw[<- Array.all_toList]
    cases h:es.toList with
    | nil=>exact absurd (by rw[<- Array.toList_inj];exact h) G
    | cons x r=>
     obtain⟨b,W,_⟩:=V x (by rw[h];exact BR)
     rw[EY,W]
     rfl
   rw[this,Bool.and_false]
  rw[L]
  rw[BN (by decide)]
  refine Bx (CZ z q ?_)
  rw[BN (by decide)]
  refine Bx (eG F j V Y ?_)
  rw[BN (by cases h:es.isEmpty with|true=>exact absurd (Array.isEmpty_iff.mp h) G|false=>rfl)]
  refine Bx (wpAny_updateDictKeysTo z q (BA (U _ _ (epd+1) (Heap.get?_update_self _ z (Obj.isFreed_of_dict (Obj.data_mapDictKeys q _))) (Obj.data_mapDictKeys q _) (λ h=>h.mapDictKeys _) (Heap.SameBut.update ..))) (by lia))
theorem iZ (a1:(o == sysModules)=false) (L:s.heap.get? o=some oo) (hx:oo.ExactDict) (O:oo.data=.dict es ep)
  (hq:∀ e∈es.toList,∃ b,e.key=.ref b/\s.TypeIs (.ref b) "tuple") (hn:(es.toList.map (·.hash)).Nodup) (hsz:es.size<=sizeLine)
  (h:∀ h' od G,h'.get? s.heap.objs.size=some od->od.data=.dict es G->od.ExactDict->(∀ b u,s.heap.get? b=some u->h'.get? b=some u)->Q (.ref s.heap.objs.size) { s with heap:=h' }) :
  wpAny (model prog w) A (call (.type "dict") [.ref o]) Q E s:=by
 refine callType_codes (Q₁:=λ U j=>U=.ref s.heap.objs.size/\j={ s with heap:=s.heap.push { cls:=.type "dict",data:=.dict #[] } }) F.kt_called_dict (F.kt_typeCall_dict_1 _) F.entry_dict_init (kt_code_dict_new _ ⟨rfl,rfl⟩) ?_
 rintro U j ⟨rfl,rfl⟩
 have hg:(s.heap.push { cls:=.type "dict",data:=.dict #[] }).get? s.heap.objs.size=some { cls:=.type "dict",data:=.dict #[] }:=Heap.get?_push_size _ rfl
 have V:∀ b u,s.heap.get? b=some u->(s.heap.push { cls:=.type "dict",data:=.dict #[] }).get? b=some u:=λ b u e=>Heap.get?_push_of_some _ e
 have M:({ s with heap:=s.heap.push { cls:=.type "dict",data:=.dict #[] } }:Shared).TypeIs (.ref s.heap.objs.size) "dict":=⟨_,hg,rfl⟩
 have J:({ s with heap:=s.heap.push { cls:=.type "dict",data:=.dict #[] } }:Shared).TypeIs (.ref o) "dict":=⟨_,V _ _ L,hx.1⟩
 have Y:s.heap.objs.size≠o:=λ e=>absurd (Heap.lt_size L) (by rw[e];exact C8 _)
 refine⟨M,F.args_dict_init_2 _ _,?_⟩
 unfold Builtin.«dict.__init__»
 refine Bx ?_
 unfold Builtin.Dict.selfAndRest
 refine Bx (Er M ?_)
 show wpAny _ _ (pure (s.heap.objs.size,[Value.ref o])) _ _ _
 refine BA ?_
 show wpAny _ _ (Builtin.Dict.updateFrom "dict.__init__" s.heap.objs.size (.ref o) [] .none) _ _ _
 unfold Builtin.Dict.updateFrom
 refine Bx (E6 J ?_)
 rw[BI (by decide)]
 refine Bx ?_
 unfold Builtin.Dict.merge
 refine Bx ?_
 unfold Builtin.Dict.readDirectly
 refine Bx (Dv J isSubtype_dict_dict ?_)
 simp only[Du,B0,CJ]
 refine Bx (EA J F.slot_dict_iter.lookup (BA ?_))
 simp only[E1,DK]
 refine Bx (BA ?_)
 refine iI Y a1 hg rfl (V _ _ L) O (λ e he=>?_) hn hsz λ h' a4 G Z W a3 a2=>?_
 ·obtain⟨b,eb,q,hb,hc⟩:=hq e he
  exact⟨b,eb,q,V _ _ hb,hc⟩
 ·show wpAny _ _ (Builtin.Dict.addKeywords s.heap.objs.size [] >>= _) _ _ _
  exact Bx (BA (BA ⟨rfl,h h' a4 G Z W (a3 ⟨rfl,rfl,rfl⟩) λ b u e=>(a2.2 b λ z=>absurd (Heap.lt_size e) (by rw[z];exact C8 _)).trans (V _ _ e)⟩))
end
end PySem
namespace L2
open PySem PySem.Spec PyProof.Rows
noncomputable def hT (w:World) (k:List Key):Int:=reduceHash (Builtin.Tuple.tupleHashOf (k.map (Au w)))
section
variable {X:Cx}
noncomputable def wV (w:World):List V->Hp->VK->Prop:=λ xs H Q=>∃ a kvs,xs=[.ref a]/\Rd H a (.dT kvs)/\(kvs.map λ p=>hT w p.1).Nodup/\∀ l,H l=none->Q (.ref l) (upd H l (.dT kvs))
theorem KT.Bj (r:KT H kvs xs):xs.map (·.1)=kvs.map (·.1):=by
 induction r with
 | nil=>rfl
 | @cons p q ps z h t j=>rw[Ce,Ce,j,h.1]
theorem iJ:cx X (.type "dict") (wV X.w):=by
 intro pins s σ H xs us Q I r h
 obtain⟨a,kvs,rfl,e,hh,q⟩:=h
 obtain⟨u,rfl,ru⟩:=vals1 r
 cases ru
 obtain⟨z,hd,xs,j,o,es,ep,ho,hx,F,L,U,hn⟩:=gW I.hok e
 have Z:es.toList.map (·.hash)=kvs.map λ p=>hT X.w p.1:=by
  rw[L,Cs]
  have:(kvs.map λ p=>hT X.w p.1)=(kvs.map (·.1)).map (hT X.w):=by rw[Cs];rfl
  rw[this,<- KT.Bj j,Cs]
  rfl
 have a2:kvs.length=es.size:=by rw[DC L];exact Paired.length j
 refine iZ hd ho hx F (λ en G=>?_) (by rw[Z];exact hh) (by lia) λ h' od M hg O V kp=>?_
 ·rw[L] at G
  obtain⟨x,W,rfl⟩:=BV.mp G
  obtain⟨ob,a1,n,h1,h2,h3,_⟩:=U x W
  exact⟨x.2.1,rfl,ob,h1,h2⟩
 ·have J:H s.heap.objs.size=none:=I.hok.fresh (Nat.le_refl _)
  refine⟨.ref s.heap.objs.size,_,I.laid (a:=s.heap.objs.size) (o:=.dT kvs) (t':=s.toks) kp (Nat.le_refl _) ⟨z,?_,xs,j.keeps λ c ys Y=>?_,od,es,M,hg,V,O,L,hn⟩,rfl,q _ J⟩
  ·have:=I.big
   rw[Ds]
   exact C5 this
  ·rw[aE (aF Y J)];exact Y
end
end L2
namespace PySem
section
variable {prog:Program}{w:World}{A:Around}{E:Value->Shared->Prop}{s:Shared}
theorem iC (J:(d == sysModules)=false) (z:s.heap.get? d=some o) (L:o.ExactDict) (j:o.data=.dict es ep)
  (G:Q (.ref s.heap.objs.size) { s with heap:=s.heap.push { cls:=.type "dict_keyiterator",data:=.fields #[.ref d,.int 0 0,.int es.size 0,.int ep 0] } }) :
  wpAny (model prog w) A (pyIter (.ref d)) Q E s:=by
 have q:s.TypeIs (.ref d) "dict":=⟨o,z,L.1⟩
 refine Fz q F.slot_dict_iter (CU F.slot_dict_iter q F.entry_dict_iter ?_ (F.args_dict_iter_1 _))
 unfold Builtin.«dict.__iter__»
 refine Bx ?_
 unfold Builtin.Dict.dictSlotNone
 refine Bx (Er q ?_)
 show wpAny _ _ (pure (Value.ref d)) _ _ s
 refine BA ?_
 show wpAny _ _ (Builtin.Dict.showsAll d >>= _) _ _ s
 unfold Builtin.Dict.showsAll
 rw[BI (by rw[J];exact B4)]
 refine Bx (BA (Bx (CZ z j (Bx (Fe z j ?_)))))
 refine Bx (Dp (BA ⟨_,rfl,"dict_keyiterator",_,⟨_,Heap.get?_push_size _ rfl,rfl⟩,F.slot_dict_keyiterator_next.lookup,?_⟩))
 simpa [rawInt] using G
theorem jj (j:s.heap.IsKeyIter it d i es.size ep) (J:s.heap.get? d=some od) (z:od.data=.dict es ep) (G:i<es.size)
  (U:∀ h',h'.IsKeyIter it d (i+1) es.size ep->Heap.SameBut it s.heap h'->Q (some es[i].key) { s with heap:=h' }) :
  wpAny (model prog w) A (pyNext (.ref it)) Q E s:=by
 obtain⟨o,O,V,M⟩:=id j
 unfold pyNext
 refine Bx (D8 (Ee (name:=Str.ofString "__next__") j.typeIs F.slot_dict_keyiterator_next
  (CU F.slot_dict_keyiterator_next j.typeIs F.entry_dict_keyiterator_next ?_ (F.args_dict_keyiterator_next_1 _))))
 refine Bx (BA ?_)
 refine Bx ?_
 refine Bx ?_
 first|refine Bx (DP j.typeIs (BA ?_))|refine Bx (D7 j.typeIs (BA ?_))
 refine Bx (Fn O M ?_)
 have L:Builtin.Dict_items.ownsTuple "dict_keyiterator" = false:=by decide
 simp only[L,B0,CJ]
 show wpAny _ _ (if (Value.ref d == Value.none)=true then _ else _) _ _ s
 rw[BI (show ¬ ((Value.ref d == Value.none)=true) from B4)]
 refine Bx (BA (Bx (CZ J z ?_)))
 rw[BI (by simp)]
 refine Bx (BA (Bx (Fe J z ?_)))
 rw[BI (by simp)]
 refine BA ?_
 simp only[show ¬ ((i:Int)<0) from by lia,CJ,Cg,Cb G]
 refine Bx ?_
 first|refine Bx (DP j.typeIs (BA ?_))|refine Bx (D7 j.typeIs (BA ?_))
 refine Bx (wpAny_isOneOf_keyiter j.typeIs ?_)
 show wpAny _ _ (setField (.ref it) 1 (rawInt ((i:Int)+1)) >>= _) _ _ s
 refine Bx (EI O M (by simp) ?_)
 have q:(s.heap.update it (Obj.mapFields (·.setIfInBounds 1 (rawInt ((i:Int)+1))))).IsKeyIter it d (i+1) es.size ep:=
  ⟨_,Heap.get?_update_self _ O (Obj.isFreed_of_fields (Obj.data_mapFields M _)),(Obj.cls_mapFields ..).trans V,by rw[Obj.data_mapFields M];simp[rawInt]⟩
 refine Bx (CD ?_)
 refine Bx (wpAny_isOneOf_keyiter (s:={ s with heap:=s.heap.update it (Obj.mapFields (·.setIfInBounds 1 (rawInt ((i:Int)+1)))) }) q.typeIs ?_)
 show wpAny _ _ (pure es[i].key) _ _ _
 exact BA (BA ⟨_,rfl,BA (U _ q (Heap.SameBut.update ..))⟩)
theorem j7 {it d:Addr}{i ep:Nat}{od:Obj}{es:Array DictEntry}{Q:Option Value->Shared->Prop}(hh:A.handled=none) (hit:s.heap.IsKeyIter it d i es.size ep) (hod:s.heap.get? d=some od) (hdd:od.data=.dict es ep) (hge:es.size<=i)
  (hQ:∀ h',Heap.ExtBut it s.heap h'->Q none { s with heap:=h' }):wpAny (model prog w) A (pyNext (.ref it)) Q E s:=by
 obtain⟨o,ho,hc,hd⟩:=id hit
 unfold pyNext
 refine Bx (D8 (Ee (name:=Str.ofString "__next__") hit.typeIs F.slot_dict_keyiterator_next
  (CU F.slot_dict_keyiterator_next hit.typeIs F.entry_dict_keyiterator_next ?_ (F.args_dict_keyiterator_next_1 _))))
 refine Bx (BA ?_)
 refine Bx ?_
 refine Bx ?_
 first|refine Bx (DP hit.typeIs (BA ?_))|refine Bx (D7 hit.typeIs (BA ?_))
 refine Bx (Fn ho hd ?_)
 have hown:Builtin.Dict_items.ownsTuple "dict_keyiterator" = false:=by decide
 simp only[hown,B0,CJ]
 show wpAny _ _ (if (Value.ref d == Value.none)=true then _ else _) _ _ s
 rw[BI (show ¬ ((Value.ref d == Value.none)=true) from B4)]
 refine Bx (BA (Bx (CZ hod hdd ?_)))
 rw[BI (by simp)]
 refine Bx (BA (Bx (Fe hod hdd ?_)))
 rw[BI (by simp)]
 refine BA ?_
 simp only[show ¬ ((i:Int)<0) from by lia,CJ,Cg,CW hge]
 refine Bx ?_
 first|refine Bx (DP hit.typeIs (BA ?_))|refine Bx (D7 hit.typeIs (BA ?_))
 show wpAny _ _ (setField (.ref it) 0 .none >>= _) _ _ s
 refine Bx (EI ho hd (by simp) ?_)
 show wpAny _ _ (newExc (.type "StopIteration") [] >>= _) _ _ _
 refine Bx ?_
 simp only[newExc,newTuple]
 refine Bx (Dp ?_ (by size_fits))
 refine Bx (m:=firstArgMember _ _) (CY (a:=Value.none) (by first|rfl|(simp only[firstArgMember];rfl)) ?_)
 refine Dp ?_ (by size_fits)
 simp only[raiseNew]
 refine Bx (wpAny_handled ?_)
 rw[show A.in1.handled=none from hh]
 refine Bx (BA (wpAny_throw ?_))
 refine Bx (Dv (T:="StopIteration") (b:=true) ⟨_,Heap.get?_push_size _ rfl,rfl⟩ isSubtype_stop ?_)
 exact BA (hQ _ (((Heap.SameBut.update ..).extBut.push _).push _))
end
end PySem
namespace L2
open PySem PySem.Spec PyProof.Rows
section
variable {X:Cx}{pins:List (Addr×Obj)}{σ:St}{H:Hp}{s:Shared}
theorem Inv.vb {a:Addr}{u u':HO}(I:Inv X pins σ H s) (e:H a=some u) (nt:∀ xs,u≠.tup xs) (nb:∀ ps,u≠.tbl ps) (no:∀ b,u≠.own b) (nf:∀ o v,u=.frz o v->(∀ o' v',X.H₀ a≠some (.frz o' v'))/\∀ x c,X.env.cells.lookup x=some c->c≠a)
  (ok:bo X.prog X.w (upd H a u') s.heap a u'):Inv X pins σ (upd H a u') s:=by
 have ne:∀ {b:Addr} {v:HO},H b=some v->v≠u->b≠a:=λ h n z=>by rw[z,e] at h;exact n (Option.some.inj h).symm
 have n0:∀ {b:Addr},H b=none->b≠a:=λ h z=>by rw[z,e] at h;cases h
 refine⟨I.ok,I.os,I.bare,⟨I.base.keep,I.base.slot,λ b o q n hx=>?_,I.base.there,λ b xs q=>?_,λ b o v q=>?_,λ b ps q=>?_⟩,I.loc,I.cell,?_,λ x c q=>?_,λ p hp=>?_,λ b v q=>?_,I.len⟩
 ·have:=I.base.free b o q n hx
  rw[aE (n0 this)];exact this
 ·have:=I.base.tups b xs q
  rw[aE (ne this λ z=>nt xs z.symm)];exact this
 ·have h1:=I.base.frzs b o v q
  rw[aE λ z=>?_]
  ·exact h1
  ·subst z
   rw[e] at h1
   exact(nf o v (Option.some.inj h1)).1 o v q
 ·obtain⟨m,h1⟩:=I.base.tbls b ps q
  exact⟨m,by rw[aE (ne h1 λ z=>nb _ z.symm)];exact h1⟩
 ·rw[aE (n0 I.free)];exact I.free
 ·rcases I.freeC x c q with h1|⟨h1,o,v,h2⟩
  ·exact .inl (by rw[aE (n0 h1)];exact h1)
  ·refine .inr ⟨h1,o,v,?_⟩
   rw[aE λ z=>?_]
   ·exact h2
   ·have h3:u=.frz o v:=by rw[z,e] at h2;exact Option.some.inj h2
    exact(nf o v h3).2 x c q z
 ·obtain⟨h1,h2,h3⟩:=I.pin p hp
  exact⟨h1,by rw[aE (n0 h2)];exact h2,h3⟩
 ·by_cases z:b=a
  ·subst z
   rw[aD] at q;cases q;exact ok
  ·rw[aE z] at q
   refine(I.hok b v q).iT (λ c o hc r=>r) (λ c r=>?_) λ c xs r=>?_
   ·rw[aE (ne r λ z=>no _ z.symm)];exact r
   ·rw[aE (ne r λ z=>nt _ z.symm)];exact r
theorem uy (F:bo X.prog X.w H h a (.dT kvs)) (j:∀ b xs,H b=some (.tup xs)->H' b=some (.tup xs)):bo X.prog X.w H' h a (.dT kvs):=by
 obtain⟨z,y,xs,r,q⟩:=F
 exact⟨z,y,xs,KT.keeps r j,q⟩
theorem Inv.tK (I:Inv X pins σ H s) (e:H a=some (.dT kvs)):∃ o,s.heap.get? a=some o/\Inv X pins σ (upd H a (.frz o (.dT kvs))) s:=by
 have j:=I.hok a _ e
 obtain⟨z,y,xs,r,o,es,ep,h1,h2⟩:=id j
 refine⟨o,h1,I.vb e (λ _ z=>nomatch z) (λ _ z=>nomatch z) (λ _ z=>nomatch z) (λ _ _ z=>nomatch z) ⟨h1,uy j λ b xs q=>?_⟩⟩
 rw[aE (dG q e (λ z=>nomatch z))];exact q
theorem Inv.Al (I:Inv X pins σ H s) (e:H a=some (.frz o (.dT kvs))) (n:∀ o' G,X.H₀ a≠some (.frz o' G)):Inv X pins σ (upd H a (.dT kvs)) s:=by
 obtain⟨h1,F⟩:=(show bo X.prog X.w H s.heap a (.frz o (.dT kvs)) from I.hok a _ e)
 refine I.vb e (λ _ z=>nomatch z) (λ _ z=>nomatch z) (λ _ z=>nomatch z) (λ o' G z=>⟨n,λ x c q z=>?_⟩) (uy F λ b xs q=>?_)
 ·obtain⟨v,O,h2,j⟩:=I.cell x c q
  obtain⟨_,_,_,_,M,es,ep,J,_,L,_⟩:=F
  rw[z,J] at h2;cases h2
  rw[L] at j;cases j
 ·rw[aE (dG q e (λ z=>nomatch z))];exact q
end
theorem Paired.n9:∀ {xs:List α}{ys:List β}{i:Nat}{x:α},Paired F xs ys->xs[i]? = some x->∃ y,ys[i]? = some y/\F x y
 | _,_,_,_,.nil,e=>by simp at e
 | _,_,0,_,.cons a _,e=>by simp at e;subst e;exact⟨_,rfl,a⟩
 | _,_,i+1,v,.cons _ b,e=>by
  obtain⟨r,h1,h2⟩:=Paired.n9 (i:=i) b (by simpa using e)
  exact⟨r,by simpa using h1,h2⟩
noncomputable def Itk (a:Addr) (o:Obj) (kvs:List (List Key×V)):It:=
 ⟨λ i H=>H a=some (.frz o (.dT kvs))/\i<kvs.length,λ i H x H'=>H'=H/\∃ b k v,x=.ref b/\kvs[i]? = some (k,v)/\H b=some (.tup (k.map kV)),λ i H=>H a=some (.frz o (.dT kvs))/\kvs.length<=i⟩
theorem pC {P:Program}{w:World}{K:PySem.W.Frag}{tg:Expr}(a it:Addr) {o:Obj}{es:Array DictEntry}{ep:Nat}{kvs:List (List Key×V)}(hd:o.data=.dict es ep) (hn:es.size=kvs.length) :
  Turn P w K tg (Itk a o kvs) [it] it (λ i h=>h.IsKeyIter it a i es.size ep) where
 mem:=by simp
 obj:=λ i h st b j=>by
  have e:b=it:=by simpa using j
  subst e
  obtain⟨o,e,c,d⟩:=st
  exact⟨o,e,λ v z=>by rw[d] at z;cases z⟩
 keep:=λ i h h' st k=>by
  obtain⟨o,e,c⟩:=st
  exact⟨o,k it (by simp) o e,c⟩
 item:=by
  intro X hP hw Z hc i pins s σ H E I L st hg
  subst hP hw Z
  obtain⟨e,hi⟩:=hg
  obtain⟨h1,ok⟩:=(show bo X.prog X.w H s.heap a (.frz o (.dT kvs)) from I.hok a _ e)
  obtain⟨z,y,xs,r,o1,a2,a1,g1,g2,g3,g4,g5⟩:=ok
  rw[h1] at g1;cases g1
  rw[hd] at g3;cases g3
  obtain⟨M,O,f2,U,W,Y⟩:=L it (by simp)
  have G:i<es.size:=by lia
  refine jj st h1 hd G λ h' J sb=>?_
  have I1:Inv X pins σ H { s with heap:=h' }:=I.turned (t':=s.toks) (λ b o j e=>(sb.2 b j).trans e) M O U W Y
  obtain⟨oi,ei,ci,di⟩:=id J
  obtain⟨⟨k,v⟩,F⟩:∃ p,kvs[i]? = some p:=⟨_,Bz hi⟩
  obtain⟨q,hq,q1,q2,q3⟩:∃ q,xs[i]? = some q/\k=q.1/\H q.2.1=some (.tup (k.map kV))/\RelV v q.2.2:=by
   have:=Paired.n9 (i:=i) r F
   obtain⟨q,hq,h⟩:=this
   exact⟨q,hq,h⟩
  have ek:es[i].key=.ref q.2.1:=by
   have:=entry_at g4 i
   rw[hq,Cb G] at this
   have:=Option.some.inj this
   rw[this];rfl
  exact⟨_,rfl,oC (s:={ s with heap:=h' }) ei ci di (by decide) ⟨.ref q.2.1,H,I1,ek,⟨rfl,q.2.1,k,v,rfl,F,q2⟩,J,λ b j=>(L b j).1⟩⟩
 done:=by
  intro X hP hw Z hc i pins s σ H E I L st hg
  subst hP hw Z
  obtain⟨e,hi⟩:=hg
  obtain⟨h1,ok⟩:=(show bo X.prog X.w H s.heap a (.frz o (.dT kvs)) from I.hok a _ e)
  obtain⟨M,O,f2,U,W,Y⟩:=L it (by simp)
  exact j7 (I.ok.hd hc) st h1 hd (by lia) λ h' eb=>⟨rfl,I.turned (t':=s.toks) (λ b o j e=>eb b o j e) M O U W Y⟩
 self:=λ _ _ _ _ _ st h=>Fl st h
section
variable {X:Cx}{tg:Expr}
noncomputable def yi (tl:TE):TI:=λ σ H R=>tl σ H λ x H1=>∃ a kvs,x=.ref a/\((H1 a=some (.dT kvs)/\∀ o,R (Itk a o kvs) (upd H1 a (.frz o (.dT kvs))))\/∃ o,H1 a=some (.frz o (.dT kvs))/\R (Itk a o kvs) H1)
theorem tX {l:Expr}{tl:TE}(Y:PE X l tl):PI X tg l (yi tl):=by
 intro pins s σ H R I h
 refine thn (Y pins s σ H _ I h) λ v F ⟨x,H1,G,r1,q1⟩=>?_
 obtain⟨a,kvs,rfl,q⟩:=q1
 cases r1
 obtain⟨o,H2,j,M,V⟩:∃ o H2,Inv X pins σ H2 F/\H2 a=some (.frz o (.dT kvs))/\R (Itk a o kvs) H2:=by
  rcases q with ⟨e,q⟩|⟨o,e,q⟩
  ·obtain⟨o,_,j⟩:=G.tK e
   exact⟨o,_,j,aD,q o⟩
  ·exact⟨o,H1,G,e,q⟩
 obtain⟨h1,ok⟩:=(show bo X.prog X.w H2 F.heap a (.frz o (.dT kvs)) from j.hok a _ M)
 obtain⟨z,y,xs,r,o1,es,ep,J,O,L,U,g5⟩:=ok
 rw[h1] at J;cases J
 have Z:es.size=kvs.length:=by rw[DC U];exact(Paired.length r).symm
 refine iC y h1 O L ?_
 refine⟨F.heap.objs.size,[F.heap.objs.size],_,_,H2,rfl,j.kept (t':=F.toks) λ b o e=>Heap.get?_push_of_some _ e,pC a _ L Z,⟨_,Heap.get?_push_size _ rfl,rfl,rfl⟩,λ b W=>?_,V⟩
 have e:b=F.heap.objs.size:=by simpa using W
 subst e
 exact j.lR (Nat.le_refl _) (j.hok.fresh (Nat.le_refl _))
end
theorem pP (W:kvs.length<=1000)
  (h:∀ acc,H1 acc=none->∃ F:Nat->St->List V->Hp->Prop,F 0 (σ++List.replicate k none) [] (upd H1 acc (.lst []))/\(∀ i j ys H2,i<=kvs.length->F i j ys H2->H2 a=some (.frz o (.dT kvs))/\ys.length<=i) /\
   (∀ i b J v j ys H2,i<kvs.length->kvs[i]? = some (J,v)->H2 b=some (.tup (J.map kV))->F i j ys H2->g (.ref b) j H2 λ z U=>tc z U λ c M=>if c=true then te z M λ v O=>O acc=some (.lst ys)/\Nx kvs.length i (F (i+1) z (ys++[v]) (upd O acc (.lst (ys++[v])))) else Nx kvs.length i (F (i+1) z ys M)) /\
   ∀ j ys H2,F kvs.length j ys H2->Q (.ref acc) H2):gS (Itk a o kvs) k g tc te σ H1 Q:=by
 intro acc Y
 obtain⟨F,Z,pl,ps,pd⟩:=h acc Y
 refine⟨λ i m j ys H2=>m=kvs.length-i/\i<=kvs.length/\F i j ys H2,⟨kvs.length,by simp,Cf _,Z⟩,?_⟩
 rintro i m j ys H2 ⟨rfl,hi,p⟩
 obtain⟨q,L⟩:=pl i j ys H2 hi p
 by_cases G:i<kvs.length
 ·refine .inr ⟨⟨q,G⟩,CQ L (bg (by lia)),λ x H3 y=>?_⟩
  obtain⟨e,b,J,v,rfl,y1,y2⟩:=y
  subst e
  exact ps i b J v j ys _ G y1 y2 p
 ·have e:i=kvs.length:=by lia
  subst e
  exact .inl ⟨⟨q,Nat.le_refl _⟩,pd j ys H2 p⟩
section
variable {X:Cx}
noncomputable def AZ (H₀:Hp) (t:TE):TE:=λ σ H Q=>t σ H λ v H1=>∃ a o kvs,H1 a=some (.frz o (.dT kvs))/\(∀ o' v',H₀ a≠some (.frz o' v'))/\Q v (upd H1 a (.dT kvs))
theorem tN (h:PE X e t) (G:X.H₀=H₀:=by rfl):PE X e (AZ H₀ t):=by
 subst G
 intro pins s σ H Q I J
 refine Cw (h pins s σ H _ I J) (λ v O ⟨y,H1,j,M,L⟩=>?_) λ _ _ z=>z
 obtain⟨a,o,kvs,F,n,q⟩:=L
 exact⟨y,_,j.Al F n,M,q⟩
end
noncomputable def Ite (K:PySem.W.Frag) (l:Addr):It:=
 ⟨λ i H=>∃ xs x,SqL K H l xs/\xs[i]? = some x,λ i H v H'=>∃ p x,H p=none/\v=.ref p/\H'=upd H p (.tup [.int i,x])/\∀ xs,SqL K H l xs->xs[i]? = some x,λ i H=>∃ xs,SqL K H l xs/\xs.length<=i⟩
theorem pJ {P:Program}{w:World}{K:PySem.W.Frag}{es:List Expr}{kk:Nat}{pos:Pos}(e it l:Addr) (L:e≠it) :
  Turn P w K (.Tuple es kk pos) (Ite K l) [e,it] e (λ i h=>(∃ j,IsEnum h e it i j)/\h.IsListIter it l i) where
 mem:=by simp
 obj:=λ i h st b hb=>by
  obtain⟨⟨j,F⟩,⟨o1,e1,_,d1⟩⟩:=st
  simp only[BF,BM,Ca] at hb
  rcases hb with rfl|rfl
  ·exact⟨_,F,λ v q=>by cases q⟩
  ·exact⟨_,e1,λ v q=>by rw[d1] at q;cases q⟩
 keep:=λ i h h' st k=>by
  obtain⟨⟨j,F⟩,h1⟩:=st
  exact⟨⟨j,k e (by simp) _ F⟩,h1.at λ o q=>k it (by simp) o q⟩
 item:=by
  intro X W hw V z i pins s σ H E I O st Y
  subst W hw V
  obtain⟨xs,x,U,hx⟩:=Y
  obtain⟨its,rv,p1,hz⟩:=I.list U
  obtain⟨u,hu,ru⟩:=rv.get hx
  obtain⟨⟨j,F⟩,h1⟩:=st
  have lt:∀ {c o},s.heap.get? c=some o->s.heap.objs.size≠c:=λ e=>C5 (Heap.lt_size e)
  have n1:s.heap.objs.size≠e:=lt F
  have n2:s.heap.objs.size≠it:=by obtain⟨_,q,_⟩:=h1;exact lt q
  refine wpAny_pyNext_enum_item F h1 p1.isList (x:=u) (by simpa using hu) L λ h' ho M hT a3 Z=>?_
  refine⟨_,rfl,wpAny_letOwnedTupleGo_enum (s:={ s with heap:=h',toks:=s.toks+1 }) ho λ G J sb=>?_⟩
  have k2:∀ c o,c∉[e,it]->s.heap.get? c=some o->G.get? c=some o:=λ c o z q=>by
   simp only[BF,BM,Ca,DW] at z
   exact(sb.2 c z.1).trans (Z c o z.1 z.2 q)
  have a1:bo X.prog X.w (upd H s.heap.objs.size (.tup [.int i,x])) G s.heap.objs.size (.tup [.int i,x]):=by
   have e5:G.get? s.heap.objs.size=some { cls:=.type "tuple",data:=.seq #[.int i s.toks,u] }:=(sb.2 _ n1).trans hT
   exact⟨bg (by simp),[.int i s.toks,u],.cons ⟨_,rfl⟩ (.cons ru .nil),_,e5,rfl,_,rfl⟩
  refine⟨.ref s.heap.objs.size,_,I.jP (t':=s.toks+1) k2 O (Nat.le_refl _) a1,rfl,⟨_,x,I.fresh,rfl,rfl,λ zs hs=>by rw[I.gi hs U];exact hx⟩,?_,λ c z=>?_⟩
  ·exact⟨⟨_,by simpa using J⟩,M.at λ o q=>(sb.2 it L.symm).trans q⟩
  ·rw[aE]
   ·exact(O c z).1
   ·simp only[BF,BM,Ca] at z
    rcases z with rfl|rfl
    ·exact Ne.symm n1
    ·exact Ne.symm n2
 done:=by
  intro X W hw V z i pins s σ H E I O st Y
  subst W hw V
  obtain⟨xs,U,a2⟩:=Y
  obtain⟨its,rv,p1,hz⟩:=I.list U
  obtain⟨⟨j,F⟩,h1⟩:=st
  have a4:=rv.length
  refine wpAny_pyNext_enum_end (I.ok.hd z) F h1 p1.isList (CW (by simp;lia)) λ h' Z=>⟨rfl,I.pq (t':=s.toks) (its:=[e,it]) (λ c o z q=>?_) O⟩
  simp only[BF,BM,Ca,DW] at z
  exact Z c o z.2 q
 self:=λ _ _ _ _ _ st h=>by
  obtain⟨⟨j,F⟩,_⟩:=st
  exact wpAny_pyIter_enum F h
section
variable {X:Cx}{K:PySem.W.Frag}
theorem boot_enumerate:bootBuiltins "enumerate" = some (.type "enumerate"):=by decide +kernel
noncomputable def zJ (K:PySem.W.Frag) (ta:TA):TI:=λ σ H R=>ta σ H λ vs H1=>∃ p xs,vs=[.ref p]/\SqL K H1 p xs/\R (Ite K p) H1
theorem ki {a:Expr}{ta:TA}{p pos pos':Pos}{es:List Expr}{Y:Nat}(U:Gl X "enumerate") (V:X.mg "enumerate" = none) (O:PA X [a] ta) (hs:starEach [a] X.env=[(false,eval a X.env)]:=by rfl) (M:X.K=K:=by rfl) :
  PI X (.Tuple es Y pos') (.Call (.Name "enumerate" p) [a] [] pos) (zJ K ta):=by
 subst M
 intro pins s σ H R I h
 refine Call_ (gH I U V boot_enumerate (DX (thn (O pos pins s σ H _ I h) λ us J ⟨vs,H1,j,r1,z⟩=>?_) hs rfl))
 obtain⟨l,xs,rfl,z,q⟩:=z
 obtain⟨u,rfl,rx⟩:=vals1 r1
 cases rx
 obtain⟨W,rv,p1,hz⟩:=j.list z
 refine call_enumerate_list p1.isList λ h' L z2 z3 Z=>?_
 refine wpAny_pyIter_enum L ?_
 refine⟨_,_,_,Ite X.K l,H1,rfl,j.kept (t':=J.toks) Z,pJ _ _ l (C5 (D4 _)),⟨⟨_,L⟩,z2⟩,λ b G=>?_,q⟩
 have F:J.heap.objs.size<=b:=by
  simp only[BF,BM,Ca] at G
  rcases G with rfl|rfl
  ·exact FK _ _
  ·exact Nat.le_refl _
 exact j.lR F (j.hok.fresh F)
end
theorem jb {K:PySem.W.Frag}{l:Addr}{xs:List V}{g:TG}{tb:TS}{D:Ends}{σ:St}{H:Hp}(Pv:Nat->St->Hp->Prop) (h0:Pv 0 σ H) (hl:∀ i σ H,i<=xs.length->Pv i σ H->SqL K H l xs)
  (hs:∀ i x p σ H,xs[i]? = some x->H p=none->Pv i σ H->g (.ref p) σ (upd H p (.tup [.int i,x])) λ σ2 H2=>tb { D with nx:=Pv (i+1),ct:=Pv (i+1),bk:=D.nx } σ2 H2) (hd:∀ σ H,Pv xs.length σ H->D.nx σ H) :
  ∃ W:Nat->Nat->St->Hp->Prop,(∃ m,W 0 m σ H)/\∀ i m σ H,W i m σ H ->
   ((Ite K l).stop i H/\D.nx σ H)\/((Ite K l).go i H/\∃ N:St->Hp->Prop,(∀ σ' H',N σ' H'->∃ m',m'<m/\W (i+1) m' σ' H')/\∀ x H',(Ite K l).yld i H x H'->g x σ H' λ σ2 H2=>tb { D with nx:=N,ct:=N,bk:=D.nx } σ2 H2):=by
 refine⟨λ i m σ H=>m=xs.length-i/\i<=xs.length/\Pv i σ H,⟨xs.length,by simp,Cf _,h0⟩,?_⟩
 rintro i m σ H ⟨rfl,hi,p⟩
 have q:=hl i σ H hi p
 by_cases hlt:i<xs.length
 ·refine .inr ⟨⟨xs,xs[i],q,by simp[hlt]⟩,Pv (i+1),λ σ' H' p'=>⟨xs.length-(i+1),by lia,rfl,hlt,p'⟩,λ v H' y=>?_⟩
  obtain⟨a,x,na,rfl,rfl,y⟩:=y
  exact hs i x a σ H (y xs q) na p
 ·have e:i=xs.length:=by lia
  subst e
  exact .inl ⟨⟨xs,q,Nat.le_refl _⟩,hd σ H p⟩
end L2
namespace PySem
section
variable {prog:Program}{w:World}{A:Around}{E:Value->Shared->Prop}{s:Shared}
end
end PySem
namespace L2
open PySem PySem.Spec PyProof.Rows
section
variable {X:Cx}
end
noncomputable def w6 (s:Stmt):Expr:=match s with
 | .Assign _ e _=>e
 | _=>.Name "" ⟨0,0,0,0⟩
noncomputable def kG (e:Expr):Arguments:=match e with
 | .Lambda a _ _ _=>a
 | _=>{ posonlyargs:=[],args:=[],vararg:=none,kwonlyargs:=[],kw_defaults:=[],kwarg:=none,defaults:=[] }
noncomputable def ko (e:Expr):Expr:=match e with
 | .Lambda _ b _ _=>b
 | _=>.Name "" ⟨0,0,0,0⟩
noncomputable def cA (e:Expr):Scope:=match e with
 | .Lambda _ _ sc _=>sc
 | _=>{ kind:=.function,names:=[],isGenerator:=false,isCoroutine:=false }
noncomputable def mU (e:Expr):Pos:=match e with
 | .Lambda _ _ _ p=>p
 | _=>⟨0,0,0,0⟩
structure kr (H:Hp) (qual:Str) (e:Expr) (F:List Str) (f:Addr) (ws:List V):Prop where
 ex:∃ (cl:List (Str×Addr)) (pm ctv:Value) (c':Addr) (oc:Obj) (vs:Array Value) (t:Tok),
  H f=some (.frz { cls:=.type "function",data:=.func (EL "<lambda>" qual (kG e) (ko e) (cA e) cl pm (.ref c') ctv) } (.own f)) /\
  H c'=some (.frz oc (.own c'))/\oc.data=.fields vs/\vs[1]? = some (.str qual t) /\
  (∀ x c,cl.lookup x=some c->x∈F)/\(∀ x y c,cl.lookup x=some c->cl.lookup y=some c->x=y) /\
  ∀ (i:Nat) x v,F[i]? = some x->ws[i]? = some v->∃ c o u,cl.lookup x=some c/\H c=some (.frz o (.own c))/\o.data=.cell (some u)/\RelV v u
 len:ws.length=F.length
theorem kr.same (k:fU H H') (c:kr H qual e F f ws):kr H' qual e F f ws:=by
 obtain⟨⟨cl,W,j,q,V,vs,t,z,G,J,L,M,O,U⟩,l⟩:=c
 exact⟨⟨cl,W,j,q,V,vs,t,k _ _ _ z,k _ _ _ G,J,L,M,O,λ i x v h1 h2=>let ⟨c,o,u,Y,Z,z3,z4⟩:=U i x v h1 h2;⟨c,o,u,Y,k _ _ _ Z,z3,z4⟩⟩,l⟩
structure j3 (P:Program) (w:World) (K:PySem.W.Frag) (mg:Str->Option Value) (base:Heap) (CX:CXT) (k:Nat) (qual:Str) (e:Expr) (ps F:List Str) (sp:List V->Sp):Prop where
 len:∀ ws vs H Q E,sp ws vs H Q E->vs.length=ps.length
 run:∀ (f:Addr) (ws:List V) (A:Around) (outer:List Env) (s:Shared) (H:Hp) (us:List Value) (vs:List V) (Q:VK) (E:XK),cB k A->j8 P w K mg base A outer s H->kr H qual e F f ws->Vals vs us->sp ws vs H Q E ->
  codeAny (model P w) A (.call (.ref f) ⟨us,[]⟩) (CR CX outer P w H s Q E) s
theorem t5 {CX:CXT}{P:Program}{w:World}{K:PySem.W.Frag}{mg:Str->Option Value}{base:Heap}{k:Nat}{qual:Str}{e:Expr}{N ps F:List Str}{sp:List V->Sp}(S:i3 N ps F (cA e))
  (W:∀ j vs H Q E,sp j vs H Q E->vs.length=ps.length)
  (hb:∀ (cl:List (Str×Addr)) (pm G:Value) (z:Addr) (us:List Value),us.length=ps.length->bindArgs (EL "<lambda>" qual (kG e) (ko e) (cA e) cl pm (.ref z) G) ⟨us,[]⟩=pure (ps.zip us))
  (L:∀ (f:Addr) (M:Value) (cl:List (Str×Addr)) (A:Around) (outer:List Env) (s:Shared) (H:Hp) (j vs:List V) (Q:VK) (E:XK),
   cB k (A.deeper (PySem.W.envX qual (cA e) s.heap.objs.size f M (cellsFrom (s.heap.objs.size+1) (cA e).names cl)))->j.length=F.length->sp j vs H Q E ->
   ∃ t,PE (cxC CX P w K mg base N F qual (cA e) f M cl A outer s H E).nox (ko e) t/\t (fJ N vs j) H Q) :
  j3 P w K mg base CX (k+1) qual e ps F sp:=by
 refine⟨W,λ f j A outer s H us vs Q E Z O c r U=>?_⟩
 have hl:=W _ _ _ _ _ U
 obtain⟨⟨cl,pm,G,z,oc,Y,t,e1,e2,e3,e4,e5,e6,e7⟩,wl⟩:=c
 have a2:s.heap.NoLimit:=O.mod.nolimit.keeps λ b o e=>(O.bs b o e).1
 have a1:us.length=ps.length:=by rw[<- r.length];exact hl
 obtain⟨g1,_⟩:=O.hok f _ e1
 obtain⟨g2,_⟩:=O.hok z _ e2
 refine PySem.W.kla_callFunE Z.depth g1 rfl S.co S.gen rfl ⟨z,oc,Y,t,rfl,g2,e3,e4⟩ ?_
 rw[hb cl pm G z us a1]
 refine BA ?_
 refine mH S.kind (λ y hy=>S.par y.1 (EB hy).1) λ a3 he h' tk n hk o1 o2=>?_
 subst he
 refine⟨a2.keeps hk,PySem.W.kla_codeExpr ?_⟩
 obtain⟨t,ht,hq⟩:=L f (.ref z) cl A outer s H j vs Q E (Z.deeper _) wl U
 have I:Inv (cxC CX P w K mg base N F qual (cA e) f (.ref z) cl A outer s H E) [] (fJ N vs j) H { s with heap:=h',toks:=tk }:=ni S Z.hd O hl r wl e5 e6 e7 n hk o1 o2
 refine Cw (ht.nox [] _ (fJ N vs j) H _ I hq) (λ u s' hs=>?_) λ e s' hs=>hs
 obtain⟨v,H',J,rv,q⟩:=hs
 exact⟨v,H',J.os,J.bare,J.base,J.hok,rv,q⟩
section
variable {X:Cx}
noncomputable def wN (C:Addr) (m:Str) (qual:Str) (e:Expr) (F:List Str) (sp:List V->Sp) (E:XK) (tf:TE) (t:TA):TE:=λ σ H Q=>tf σ H λ x H1=>∃ a dx fs f ws,x=.ref a/\H1 a=some (.ins C dx fs)/\fs.lookup m=some (.ref f)/\kr H1 qual e F f ws/\t σ H1 λ vs H2=>fU H1 H2/\sp ws vs H2 Q E
theorem pG
  (C:j3 X.prog X.w X.K X.mg X.base CX k qual lam ps F sp) (hr:cB k X.A) (hx:Passes CX X E) (ha:PA X (e::es) t) (O:Inv X pins σ H1 s1) (c:kr H1 qual lam F f ws) (h1:t σ H1 λ vs H2=>fU H1 H2/\sp ws vs H2 Q E)
  (he:starEach (e::es) X.env=(false,eval e X.env)::starEach es X.env) (M:(backTo pos (starEach es X.env)).any (·.1)=false) :
  wpAny (model X.prog X.w) X.A (callWith pos (.ref f) [] (backTo pos (starEach (e::es) X.env)) []) (EP X pins σ Q) X.xe s1:=by
 obtain⟨cl,pm,Y,c',oc,vs,tq,U,_⟩:=id c.ex
 have G:∀ {o:Obj} {h:Heap},h.get? f=some o->PySem.W.Frag.In [(f,o)] h:=λ{o h} z a o' q=>by
  rw[Dl] at q
  cases L:a == f with
  | true=>rw[L] at q;cases q;rw[Dc.mp L];exact z
  | false=>rw[L] at q;cases q
 obtain⟨g1,_⟩:=O.hok f _ U
 refine EM (h₀:=s1.heap) (G g1) (by simp[PySem.W.keepIn]) (thn (ha pos pins s1 σ H1 _ O h1) λ us W ⟨vs,H2,J,r,V,q⟩=>?_) he M
 obtain⟨g2,_⟩:=J.hok f _ (V _ _ _ U)
 refine⟨G g2,?_⟩
 refine EJ (EF (C.run f ws X.A X.stack W H2 us vs Q E hr J.vT (c.same V) r q) λ r s' j=>?_)
 cases r with
 | error e=>exact hx pins σ H2 W e s' J j
 | ok Z=>
  cases Z with
  | ret u=>exact J.after j
  | next=>exact False.elim j
  | brk=>exact False.elim j
  | cont=>exact False.elim j
end
section
variable {X:Cx}{pins:List (Addr×Obj)}{σ:St}{H:Hp}{s:Shared}{A:Around}{E:Value->Shared->Prop}
theorem md (I:Inv X pins σ H s) (e:H a=some (.ins C dx fs)) (c:Cls X.K C) (n:bG X.K C m) (l:fs.lookup m=some v)
  (h:∀ u s',Inv X pins σ H s'->RelV v u->Q (u,[]) s'):wpAny (model X.prog X.w) A (getMethod (.ref a) m pl) Q E s:=by
 obtain⟨mA,O,r,_,_,_⟩:=gh I.hok e
 obtain⟨j,J,_⟩:=O.look
 exact PySem.W.method_usual I.kIn J (D5 (c.get m)).1 (D5 (c.get m)).2 n rfl (i0 I e c n l h)
theorem qC {CX:CXT}{k:Nat}{C:Addr}{m qual:Str}{lam o:Expr}{ps F:List Str}{sp:List V->Sp}{E:XK}{apos pos:Pos}{e:Expr}{es:List Expr}{tf:TE}{t:TA}{pl:Sem Bool}(CO:j3 X.prog X.w X.K X.mg X.base CX k qual lam ps F sp) (hr:cB k X.A)
  (hf:PE X o tf) (c:Cls X.K C) (n:bG X.K C m) (hx:Passes CX X E) (ha:PA X (e::es) t) (hst:starEach (e::es) X.env=(false,eval e X.env)::starEach es X.env:=by rfl) (hpl:(backTo pos (starEach es X.env)).any (·.1)=false:=by rfl)
  (ht:eval (.Call (.Attribute o m apos) (e::es) [] pos) X.env=(do
   let ov <- eval o X.env
   standAt apos.atName
   let (f,first) <- holding [ov] (getMethod ov m pl)
   callWith pos f first (backTo pos (starEach (e::es) X.env)) (backToKw pos (keywordEach [] X.env))):=by rfl) :
  PE X (.Call (.Attribute o m apos) (e::es) [] pos) (wN C m qual lam F sp E tf t):=by
 intro pins s σ H Q I h
 refine Fg (pl:=pl) (thn (hf pins s σ H _ I h) λ u s1 ⟨x,H1,I1,rx,a,dx,fs,f,ws,ex,ea,l,cl,q⟩=>?_) ht
 subst ex
 obtain rfl:u=Value.ref a:=rx
 refine md I1 ea c n l λ u2 s2 I2 ru=>?_
 obtain rfl:u2=Value.ref f:=ru
 exact pG CO hr hx ha I2 cl q hst hpl
end
noncomputable abbrev Cx.A3 (X:Cx) (F:List Str):Cx:={ X with fn:=λ x=>X.fn x && !F.contains x }
section
variable {X:Cx}{σ:St}{H:Hp}{s:Shared}
theorem Inv.freeze (I:Inv X [] σ H s) (V:∀ x,X.fn x=true) :
  ∃ H2,Inv (X.A3 F) [] σ H2 s/\(∀ b o,H b=some o->H2 b=some o)/\(∀ x∈F,∀ c,X.env.cells.lookup x=some c->∃ o,s.heap.get? c=some o/\H2 c=some (.frz o (.own c)))/\∀ b,H2 b≠none->H b≠none\/∃ x∈F,X.env.cells.lookup x=some b:=by
 have J:∀ x c,X.env.cells.lookup x=some c->H c=none:=λ x c e=>(I.freeC x c e).elim id λ z=>absurd ((V x).symm.trans z.1) (by decide)
 have O:∀ x c,X.env.cells.lookup x=some c->X.s₀.heap.objs.size<=c:=λ x c e=>I.ok.cab x c (V x) e
 classical
 let H2:Hp:=λ b=>if (∃ x∈F,X.env.cells.lookup x=some b) then (s.heap.get? b).map (λ o=>.frz o (.own b)) else H b
 have j:∀ b,(¬ ∃ x∈F,X.env.cells.lookup x=some b)->H2 b=H b:=λ b n=>BI n
 have L:∀ b,(∃ x∈F,X.env.cells.lookup x=some b)->H2 b=(s.heap.get? b).map (λ o=>.frz o (.own b)):=λ b n=>BN n
 have G:∀ b o,H b=some o->H2 b=some o:=λ b o e=>by
  rw[j]
  ·exact e
  ·rintro⟨x,_,z⟩;rw[J x b z] at e;cases e
 have Z:∀ b,b<X.s₀.heap.objs.size->H2 b=H b:=λ b lt=>j b λ⟨x,_,z⟩=>absurd (BW lt (O x b z)) (C8 _)
 have Y:∀ x∈F,∀ c,X.env.cells.lookup x=some c->∃ o,s.heap.get? c=some o/\H2 c=some (.frz o (.own c)):=λ x M c e=>by
  obtain⟨v,o,W,_⟩:=I.cell x c e
  exact⟨o,W,by rw[L c ⟨x,M,e⟩,W];rfl⟩
 refine⟨H2,⟨⟨I.ok.mod,I.ok.kind,I.ok.glob,I.ok.blt,I.ok.above,I.ok.inj,I.ok.has,λ x c hf e=>O x c e,I.ok.hd,I.ok.frames,I.ok.stk,I.ok.exf,I.ok.bs,I.ok.bsz,I.ok.noex,I.ok.exfs,I.ok.gv,I.ok.frf⟩,I.os,I.bare,
  ⟨I.base.keep,I.base.slot,λ b o q n M=>by rw[Z b (Heap.lt_size q)];exact I.base.free b o q n M,I.base.there,λ b xs q=>G _ _ (I.base.tups b xs q),λ b o u q=>G _ _ (I.base.frzs b o u q),λ b ps q=>let ⟨m,z⟩:=I.base.tbls b ps q;⟨m,G _ _ z⟩⟩,
  I.loc,I.cell,?_,λ x c e=>?_,λ p hp=>?_,λ b o q=>?_,I.len⟩,G,Y,λ b n=>?_⟩
 ·rw[j]
  ·exact I.free
  ·rintro⟨x,_,z⟩;exact I.cne x _ z rfl
 ·by_cases M:x∈F
  ·obtain⟨o,_,e2⟩:=Y x M c e
   refine .inr ⟨?_,o,_,e2⟩
   show (X.fn x && !F.contains x)=false
   rw[List.contains_iff_mem.mpr M];simp
  ·refine .inl ?_
   rw[j]
   ·exact J x c e
   ·rintro⟨y,hy,z⟩
    exact M (by rw[I.ok.inj x y c e z];exact hy)
 ·obtain⟨z1,z2,z3,z4,z5⟩:=I.pin p hp
  refine⟨z1,?_,z3,z4,z5⟩
  rw[j]
  ·exact z2
  ·rintro⟨x,_,z⟩
   obtain⟨v,o,W,hd⟩:=I.cell x _ z
   rw[z1] at W;cases W
   exact z5 _ hd
 ·by_cases U:∃ x∈F,X.env.cells.lookup x=some b
  ·rw[L b U] at q
   obtain⟨ob,z,rfl⟩:=E8.mp q
   exact⟨z,ob,z⟩
  ·rw[j b U] at q
   exact(I.hok b o q).iT (λ _ _ _ r=>r) (λ c r=>G _ _ r) λ c xs r=>G _ _ r
 ·by_cases U:∃ x∈F,X.env.cells.lookup x=some b
  ·exact .inr U
  ·rw[j b U] at n;exact .inl n
end
noncomputable def Br (T:Addr) (qual:Str) (lam:Expr) (F:List Str) (ix:List Nat) (i:Nat) (u:TE):TE:=λ σ H Q=>p9 H T (mU lam) qual/\∃ ws,ws.length=F.length/\(∀ (j i:Nat),ix[j]? = some i->∃ v,σ[i]? = some (some v)/\ws[j]? = some v) /\
 ∀ f H',H f=none->oh T H H'->p9 H' T (mU lam) qual->kr H' qual lam F f ws->u (σ.set i (some (.ref f))) H' Q
theorem vM {X:Cx}{T c:Addr}{x qual:Str}(lam:Expr) {args:Arguments}{body:Expr}{scope:Scope}{pos pA p0:Pos}{rest:List Stmt}{u:TE}{F:List Str}{ix:List Nat}{i:Nat}(hlam:lam=.Lambda args body scope pos) (Tb:Tab X.mg X.base c T) (hcd:X.env.code=.ref c) (hN:X.N.Nodup) (hi:X.N[i]? = some x)
  (hloc:X.env.scope.names.lookup x=some .local) (hfn:∀ x,X.fn x=true) (hix:∀ (j:Nat) x,F[j]? = some x->∃ i',ix[j]? = some i'/\X.N[i']? = some x) (hni:∀ i'∈ix,i'≠i) (hF:∀ x∈F,X.env.scope.names.lookup x=some .cell)
  (hfr:∀ y∈(cA lam).names,y.2=.free->y.1∈F) (hfr2:∀ x∈F,(cA lam).names.lookup x=some .free) (hrest:PM (X.A3 F) rest u)
  (hdf:defaultsOf (kG lam) X.env=([],[]):=by rfl) (hq:X.env.qual ++ "<lambda>" = qual:=by rfl) (hs:swapsWith lam (some (.Name x p0)) pA.line X.env=pure false:=by rfl) :
  PM X (.Assign [.Name x p0] lam pA::rest) (Br T qual lam F ix i u):=by
 subst hlam
 intro s σ H Q I h
 obtain⟨tab,ws,wl,hw,k⟩:=h
 have hfr:∀ y∈scope.names,y.2=.free->y.1∈F:=hfr
 have hfr2:∀ x∈F,scope.names.lookup x=some .free:=hfr2
 have has:∀ y∈scope.names,y.2=.free->∃ c,X.env.cells.lookup y.1=some c:=λ y hy hf=>I.ok.has y.1 (.inl (hF _ (hfr y hy hf)))
 obtain⟨cl,ecl,hcl,hfc⟩:=eg has
 obtain⟨cl2,ecl2,hkey⟩:=j6 has
 have:cl=cl2:=by rw[ecl] at ecl2;injection ecl2
 subst this
 have fin:∀ (f c':Addr) (oc:Obj) (cvs:Array Value) (tq:Tok) (pm ctv:Value) (H1:Hp) (h1:Heap) (tk:Nat),H f=none->Inv X [] σ H1 { s with heap:=h1,toks:=tk }->oh T H H1->p9 H1 T pos qual ->
   H1 f=some (.frz { cls:=.type "function",data:=.func (EL "<lambda>" qual args body scope cl pm (.ref c') ctv) } (.own f))->H1 c'=some (.frz oc (.own c'))->oc.data=.fields cvs->cvs[1]? = some (.str qual tq) ->
   wpAny (model X.prog X.w) X.A (storeName X.env x (.ref f)) (λ _ s2=>wpAny (model X.prog X.w) X.A (execs rest X.env)
    (λ fl s'=>∃ u v H',fl=.ret u/\s'.os=X.s₀.os/\AllBare s'.gens/\Un X.fs X.ex X.H₀ H' X.s₀.heap s'.heap/\HOk X.prog X.w H' s'.heap/\RelV v u/\Q v H') X.xe s2) X.xe { s with heap:=h1,toks:=tk }:=by
  intro f c' oc cvs tq pm ctv H1 h1 tk fresh I1 sT tT ef ec' e3 e4
  refine iO (v:=.ref f) (u:=.ref f) I1 hN hi (.inl hloc) rfl (λ s2 I2=>?_) (.inr hloc)
  obtain⟨H2,I3,old,isc,_⟩:=I2.freeze (F:=F) hfn
  refine hrest s2 _ H2 Q I3 (k f H2 fresh (λ b o hb e=>old _ _ (sT b o hb e)) ?_ ⟨⟨cl,pm,ctv,c',oc,cvs,tq,old _ _ ef,old _ _ ec',e3,e4,?_,?_,?_⟩,wl⟩)
  ·rcases tT with z|⟨c2,oc2,v2,t2,z,z2,r⟩
   ·exact .inl (old _ _ z)
   ·exact .inr ⟨c2,oc2,v2,t2,old _ _ z,old _ _ z2,r⟩
  ·intro x c e
   obtain⟨y,m,rfl,hy⟩:=hkey x c e
   exact hfr y m hy
  ·intro x y c e1 e2
   exact I3.ok.inj x y c (hcl x c e1) (hcl y c e2)
  ·intro j x v ej ewj
   obtain⟨i',ei,eN⟩:=hix j x ej
   obtain⟨v',es,ew⟩:=hw j i' ei
   rw[ewj] at ew;cases ew
   have xF:x∈F:=BJ ej
   obtain⟨m,hn,hl⟩:=I3.loc
   obtain⟨u,ru,lo⟩:=hl i' x v eN (by rw[Cp (Ne.symm (hni i' (BJ ei)))];exact es) (.inr (.inl (hF x xF)))
   rcases lo with ⟨z,_⟩|⟨_,c,ec,o,ho,hd⟩
   ·have z':X.env.scope.names.lookup x=some .local:=z
    rw[hF x xF] at z';cases z'
   ·obtain⟨c2,ec2⟩:=hfc _ (CA (hfr2 x xF)) rfl
    have:=hcl x c2 ec2
    rw[ec] at this;cases this
    obtain⟨o2,ho2,hH2⟩:=isc x xF c ec
    rw[ho] at ho2;cases ho2
    exact⟨c,o,u,ec2,hH2,hd,ru⟩
 have G:=I.mod.glob.keeps I.bk
 have C:=Tb.code.keeps I.bk
 have B:=Tb.blt.keeps I.bk
 refine E0 (wpAny_Assign_Name (PySem.W.kla_eval hdf ?_) hs)
 rw[hq]
 rcases tab with tab|⟨c',oc,cvs,tq,tab,ec',e3,e4⟩
 ·have hP:s.heap.get? T=some (PySem.W.tabObj #[]):=I.hok T _ tab
  refine PySem.W.kla_makeFunction ecl I.ok.glob G hcd C hP trivial rfl Tb.ne B λ c' ctv h' tk hx hge hlt hrec htb=>?_
  obtain⟨c2,oc,cvs,tq,e2,g2,e3,e4⟩:=hrec
  cases e2
  let fo:Obj:={ cls:=.type "function",data:=.func (EL "<lambda>" qual args body scope cl ((X.mg "__name__").getD .none) (.ref c') ctv) }
  let H1:Hp:=upd (upd (upd H T (.tbl (#[] ++ #[rawInt pos.line,rawInt pos.col,.ref c']))) c' (.frz oc (.own c'))) h'.objs.size (.frz fo (.own h'.objs.size))
  have Tlt:T<s.heap.objs.size:=I.hok.lt tab
  have cT:c'≠T:=C5 (BW Tlt hge)
  have fc:h'.objs.size≠c':=C5 hlt
  have fT:h'.objs.size≠T:=C5 (E9 (BW Tlt hge) hlt)
  have n1:H c'=none:=I.hok.fresh hge
  have n2:H h'.objs.size=none:=I.hok.fresh (B6 hge (DF hlt))
  have H1f:H1 h'.objs.size=some (.frz fo (.own h'.objs.size)):=aD
  have H1c:H1 c'=some (.frz oc (.own c')):=by show upd _ _ _ _=_;rw[aE (Ne.symm fc),aD]
  have H1T:H1 T=some (.tbl (#[] ++ #[rawInt pos.line,rawInt pos.col,.ref c'])):=by show upd _ _ _ _=_;rw[aE (Ne.symm fT),aE (Ne.symm cT),aD]
  have H1o:∀ b,b≠T->b≠c'->b≠h'.objs.size->H1 b=H b:=λ b x1 x2 x3=>by show upd _ _ _ _=_;rw[aE x3,aE x2,aE x1]
  have sT:oh T H H1:=λ b o hb e=>by
   rw[H1o b hb (λ z=>by rw[z,n1] at e;cases e) (λ z=>by rw[z,n2] at e;cases e)];exact e
  have gf:(h'.push fo).get? h'.objs.size=some fo:=Heap.get?_push_size _ rfl
  have gr:=grown (fs:=X.fs) (P:=X.prog) (w:=X.w) (h':=h'.push fo) tab I.hok sT (λ b hb n lt=>by rw[H1o b hb (BU (BW lt hge)) (BU (E9 (BW lt hge) hlt))];exact n)
   (λ b o hb e=>Heap.get?_push_of_some _ (hx b o hb e)) H1T (Heap.get?_push_of_some _ htb) (λ b o n e=>by
    by_cases x3:b=h'.objs.size
    ·subst x3;rw[H1f] at e;cases e;exact⟨gf,_,gf⟩
    ·by_cases x2:b=c'
     ·subst x2;rw[H1c] at e;cases e;exact⟨Heap.get?_push_of_some _ g2,_,Heap.get?_push_of_some _ g2⟩
     ·have x1:b≠T:=λ z=>by rw[z,tab] at n;cases n
      rw[H1o b x1 x2 x3,n] at e;cases e)
  exact fin h'.objs.size c' oc cvs tq _ ctv H1 (h'.push fo) tk n2 (I.un gr.1 gr.2) sT (.inr ⟨c',oc,cvs,tq,by rw[H1T];rfl,H1c,e3,e4⟩) H1f H1c e3 e4
 ·have hP:s.heap.get? T=some (PySem.W.tabObj #[rawInt pos.line,rawInt pos.col,.ref c']):=I.hok T _ tab
  refine PySem.W.kla_makeFunctionHit (cv:=.ref c') ecl I.ok.glob G hcd C hP (by simp[TriplesOk,rawInt]) (by simp[codeAmong,rawInt]) B λ ctv h' tk hx hge=>?_
  let fo:Obj:={ cls:=.type "function",data:=.func (EL "<lambda>" qual args body scope cl ((X.mg "__name__").getD .none) (.ref c') ctv) }
  let H1:Hp:=upd H h'.objs.size (.frz fo (.own h'.objs.size))
  have n2:H h'.objs.size=none:=I.hok.fresh hge
  have H1f:H1 h'.objs.size=some (.frz fo (.own h'.objs.size)):=aD
  have all:∀ b o,H b=some o->H1 b=some o:=λ b o e=>by show upd _ _ _ _=_;rw[aE (aF e n2)];exact e
  have gf:(h'.push fo).get? h'.objs.size=some fo:=Heap.get?_push_size _ rfl
  have I1:Inv X [] σ H1 { s with heap:=h'.push fo,toks:=tk }:=I.laid (λ b o e=>Heap.get?_push_of_some _ (hx b o e)) hge ⟨gf,_,gf⟩
  exact fin h'.objs.size c' oc cvs tq _ ctv H1 (h'.push fo) tk n2 I1 (λ b o _ e=>all b o e) (.inr ⟨c',oc,cvs,tq,all _ _ tab,all _ _ ec',e3,e4⟩) H1f (all _ _ ec') e3 e4
theorem ud (h:PSs X body t):PM X body (λ σ H Q=>t { nx:=λ _ _=>False,rt:=Q } σ H):=by
 intro s σ H Q I F
 refine Cw (h [] s σ H _ I F) (λ z s' j=>?_) λ e s' j=>j
 cases z with
 | ret u=>
  obtain⟨v,L,H',J,G,q⟩:=j
  exact⟨u,v,H',rfl,J.os,J.bare,J.base,J.hok,G,q⟩
 | next=>obtain⟨_,_,_,q⟩:=j;exact False.elim q
 | brk=>obtain⟨_,_,_,q⟩:=j;exact False.elim q
 | cont=>obtain⟨_,_,_,q⟩:=j;exact False.elim q
end L2
namespace Tim
open PySem PyProof.Rows
noncomputable def Cmp (prog:Program) (w:World) (A:Around) (s:Shared) (rk:Keyed->Int) (κ:SortKind) (S:List Keyed):Prop:=
 ∀ x∈S,∀ y∈S,∀ (E:Value->Shared->Prop) (Q:Bool->Shared->Prop),Q (decide (rk x<rk y)) s->wpAny (model prog w) A (keyLt' κ x.1 y.1) Q E s
structure SB (a₀:Array Keyed) (κ:SortKind) (P:Array (Nat×Nat×Nat)) (st:SortSt):Prop where
 perm:(arrOf st).Perm a₀
 kind:kindOf st=κ
 failed:failedOf st=none
 pend:pendingOf st=P
noncomputable def R (rk:Keyed->Int) (xs:Array Keyed) (i:Nat):Int:=match xs[i]? with
 | some p=>rk p
 | none=>0
section
variable {rk:Keyed->Int}{κ:SortKind}{a₀:Array Keyed}{P:Array (Nat×Nat×Nat)}
theorem bN (h:i<xs.size):R rk xs i=rk xs[i]:=by unfold R;rw[getElem?_pos xs i h]
theorem dS (h:xs[i]? = ys[j]?):R rk xs i=R rk ys j:=by unfold R;rw[h]
theorem SB.size {st:SortSt}(h:SB a₀ κ P st):(arrOf st).size=a₀.size:=h.perm.size_eq
theorem SB.setArr {st:SortSt}(h:SB a₀ κ P st) {xs:Array Keyed}(j:xs.Perm (arrOf st)):SB a₀ κ P (setArr st xs):=⟨j.trans h.perm,h.kind,h.failed,h.pend⟩
theorem SB.mem {st:SortSt}(h:SB a₀ κ P st) {i:Nat}(hi:i<(arrOf st).size):(arrOf st)[i]∈a₀.toList:=(D3.mp h.perm).mem_iff.mp (by simp)
theorem gu (D:(a₀.toList.map rk).Nodup) (G:xs.Perm a₀) (hi:i<xs.size) (F:j<xs.size) (e:R rk xs i=R rk xs j):i=j:=by
 have n:(xs.toList.map rk).Nodup:=((D3.mp G).map rk).nodup_iff.mpr D
 rw[bN hi,bN F] at e
 have q:(xs.toList.map rk)[i]? = some (rk xs[i]):=by rw[BC];simp[hi]
 have z:(xs.toList.map rk)[j]? = some (rk xs[j]):=by rw[BC];simp[F]
 exact(C2 (BE.mp q).1 n).mp (by rw[q,z,e])
noncomputable def Seg (rk:Keyed->Int) (xs:Array Keyed) (lo hi:Nat):Prop:=∀ i j,lo<=i->i<j->j<hi->R rk xs i<R rk xs j
theorem mw (hs:src<xs.size) (j:d<=src) (k) :
  R rk (bubble xs src d) k=if k=src-d then R rk xs src else if src-d<k/\k<=src then R rk xs (k-1) else R rk xs k:=by
 have e:=getElem?_bubble hs d j k
 by_cases h1:k=src-d
 ·rw[BN h1] at e ⊢;exact dS e
 ·rw[BI h1] at e ⊢
  by_cases h2:src-d<k/\k<=src
  ·rw[BN h2] at e ⊢;exact dS e
  ·rw[BI h2] at e ⊢;exact dS e
theorem lC (q:j<=xs.size) (k):R rk (mirror xs i j ((j-i)/2)) k=if i<=k/\k<j then R rk xs (i+j-1-k) else R rk xs k:=by
 have e:=getElem?_mirror_all (i:=i) q k
 by_cases h:i<=k/\k<j
 ·rw[BN h] at e ⊢;exact dS e
 ·rw[BI h] at e ⊢;exact dS e
end
section
variable {prog:Program}{w:World}{A:Around}{E:Value->Shared->Prop}{s:Shared}{rk:Keyed->Int}{κ:SortKind}{a₀:Array Keyed}{P:Array (Nat×Nat×Nat)}
theorem iU {st:SortSt}{x y:Keyed}{Q:Option Bool->SortSt->Prop}(C:Cmp prog w A s rk κ a₀.toList) (j:kindOf st=κ) (q:x∈a₀.toList) (z:y∈a₀.toList) (h:Q (some (decide (rk x<rk y))) st) :
  wpS (model prog w) A E s (lt' x y) Q st:=by
 rw[lt'_eq]
 refine BO (D9 ?_)
 rw[j]
 exact BO (EZ (D8 (C x q y z _ _ ⟨rfl,BZ h⟩)))
theorem br {st:SortSt}{xs:Array Keyed}{i:Nat}{Q:Keyed->SortSt->Prop}(hi:i<xs.size) (h:Q xs[i] st):wpS (model prog w) A E s (elem' xs i) Q st:=by
 rw[elem'_eq,getElem?_pos xs i hi]
 exact BZ h
theorem fi {st:SortSt}{i j:Nat}{Q:Option Bool->SortSt->Prop}(C:Cmp prog w A s rk κ a₀.toList) (F:SB a₀ κ P st) (hi:i<a₀.size) (G:j<a₀.size)
  (h:Q (some (decide (R rk (arrOf st) i<R rk (arrOf st) j))) st):wpS (model prog w) A E s (ltAt' i j) Q st:=by
 have q:i<(arrOf st).size:=by rw[F.size];exact hi
 have z:j<(arrOf st).size:=by rw[F.size];exact G
 rw[ltAt'_eq]
 refine BO (D9 ?_)
 refine BO (br q (BO (br z ?_)))
 refine iU C F.kind (F.mem q) (F.mem z) ?_
 rw[bN q,bN z] at h
 exact h
theorem wpS_binarySort {st:SortSt}{lo n ok:Nat}{Q:Bool->SortSt->Prop}(C:Cmp prog w A s rk κ a₀.toList) (D:(a₀.toList.map rk).Nodup) (hn:lo+n<=a₀.size) (a5:ok<=n) (hB:SB a₀ κ P st) (hs:Seg rk (arrOf st) lo (lo+ok))
  (h:∀ z,SB a₀ κ P z->Seg rk (arrOf z) lo (lo+n)->(∀ k,(k<lo\/lo+n<=k)->(arrOf z)[k]? = (arrOf st)[k]?)->Q true z):wpS (model prog w) A E s (binarySort' lo n ok) Q st:=by
 rw[binarySort'_eq]
 refine BO (Dn (CH (I:=λ k c z=>c=(none,())/\SB a₀ κ P z/\Seg rk (arrOf z) lo (lo+min k n)/\∀ k,(k<lo\/lo+n<=k)->(arrOf z)[k]? = (arrOf st)[k]?)
  (Q:=λ c z=>c=(none,())/\SB a₀ κ P z/\Seg rk (arrOf z) lo (lo+n)/\∀ k,(k<lo\/lo+n<=k)->(arrOf z)[k]? = (arrOf st)[k]?) ?step ?fin ?init) ?post)
 case post=>
  rintro c z ⟨rfl,G,J,ho⟩
  exact BZ (h z G J ho)
 case init=>
  refine⟨rfl,hB,λ i j h0 Y hj=>?_,λ _ _=>rfl⟩
  by_cases h1:ok=0
  ·lia
  ·exact hs i j h0 Y (by lia)
 case fin=>
  rintro c z ⟨hc,G,J,ho⟩
  refine⟨hc,G,?_,ho⟩
  rwa [show min (max (max ok 1) n) n=n by lia] at J
 case step=>
  rintro k c z a2 a3 ⟨rfl,G,J,ho⟩
  rw[show min k n=k by lia] at J
  have O:lo+k<(arrOf z).size:=by rw[G.size];lia
  refine BO (Dn (CH (I:=λ x c q=>q=z/\∃ l r,c=(none,l,r)/\l<=r/\r<=k/\r-l<=k-x /\
    (∀ i,i<l->R rk (arrOf z) (lo+i)<R rk (arrOf z) (lo+k))/\(∀ i,r<=i->i<k->R rk (arrOf z) (lo+k)<R rk (arrOf z) (lo+i)))
   (Q:=λ c q=>q=z/\∃ l r,c=(none,l,r)/\l<=k /\
    (∀ i,i<l->R rk (arrOf z) (lo+i)<R rk (arrOf z) (lo+k))/\(∀ i,l<=i->i<k->R rk (arrOf z) (lo+k)<R rk (arrOf z) (lo+i))) ?istep ?ifin ?iinit) ?ipost)
  case iinit=>exact⟨rfl,0,k,rfl,by lia,by lia,by lia,λ i hi=>by lia,λ i h1 h2=>by lia⟩
  case ifin=>
   rintro c q ⟨rfl,l,r,rfl,a1,U,hm,M,L⟩
   have:l=r:=by lia
   subst this
   exact⟨rfl,l,l,rfl,U,M,L⟩
  case istep=>
   rintro x c q _ a6 ⟨rfl,l,r,rfl,a1,U,hm,M,L⟩
   dsimp only
   by_cases V:l >= r
   ·rw[BN V]
    have:l=r:=by lia
    subst this
    exact BZ ⟨rfl,l,l,rfl,U,M,L⟩
   ·rw[BI V]
    refine BO (fi C G (by lia) (by lia) ?_)
    by_cases F:R rk (arrOf q) (lo+k)<R rk (arrOf q) (lo+(l+r)/2)
    ·simp only[F,Ef,DK]
     refine BZ ⟨rfl,l,(l+r)/2,rfl,by lia,by lia,by lia,M,λ i h1 h2=>?_⟩
     by_cases e:i=(l+r)/2
     ·rw[e];exact F
     ·exact FI F (J _ _ (by lia) (by lia) (by lia))
    ·simp only[F,ED,B0,CJ]
     have ne:R rk (arrOf q) (lo+(l+r)/2)≠R rk (arrOf q) (lo+k):=λ e=>by
      have:=gu D G.perm (by lia) O e
      lia
     have lt:R rk (arrOf q) (lo+(l+r)/2)<R rk (arrOf q) (lo+k):=by lia
     refine BZ ⟨rfl,(l+r)/2+1,r,rfl,by lia,by lia,by lia,λ i h1=>?_,L⟩
     by_cases e:i=(l+r)/2
     ·rw[e];exact lt
     ·exact FI (J _ _ (by lia) (by lia) (by lia)) lt
  case ipost=>
   rintro c q ⟨rfl,l,r,rfl,a4,M,L⟩
   show wpS _ _ _ _ (do moveDown' (lo+k) (lo+l);pure (ForInStep.yield (none,()))) _ _
   rw[moveDown'_eq]
   refine BO (DJ (BZ ⟨rfl,G.setArr (bubble_perm _ _ _),?_,λ j hj=>?_⟩))
   ·rw[show min (k+1) n=k+1 by lia]
    intro i j h0 Y hj
    show R rk (bubble (arrOf q) (lo+k) (lo+k-(lo+l))) i<R rk (bubble (arrOf q) (lo+k) (lo+k-(lo+l))) j
    have Z:∀ i,lo<=i->i<lo+l->R rk (arrOf q) i<R rk (arrOf q) (lo+k):=λ i a b=>by
     have:=M (i-lo) (by lia)
     rwa [show lo+(i-lo)=i by lia] at this
    have W:∀ i,lo+l<=i->i<lo+k->R rk (arrOf q) (lo+k)<R rk (arrOf q) i:=λ i a b=>by
     have:=L (i-lo) (by lia) (by lia)
     rwa [show lo+(i-lo)=i by lia] at this
    rw[mw O (by lia),mw O (by lia),show lo+k-(lo+k-(lo+l))=lo+l by lia]
    repeat' split
    all_goals first
     | (exfalso;lia)
     | exact Z _ (by lia) (by lia)
     | exact W _ (by lia) (by lia)
     | exact J _ _ (by lia) (by lia) (by lia)
   ·have e:=getElem?_bubble O (lo+k-(lo+l)) (by lia) j
    show (bubble (arrOf q) (lo+k) (lo+k-(lo+l)))[j]? = _
    rw[e,BI (by lia),BI (by lia)]
    exact ho j hj
end
section
variable {prog:Program}{w:World}{A:Around}{E:Value->Shared->Prop}{s:Shared}{rk:Keyed->Int}{κ:SortKind}{a₀:Array Keyed}{P:Array (Nat×Nat×Nat)}
theorem Seg.one {xs:Array Keyed}{lo:Nat}:Seg rk xs lo (lo+1):=λ i j a b c=>by lia
theorem Seg.grow {xs:Array Keyed}{lo n:Nat}(h:Seg rk xs lo (lo+n)) (h1:1<=n) (q:R rk xs (lo+n-1)<R rk xs (lo+n)):Seg rk xs lo (lo+(n+1)):=λ i j a b c=>by
 by_cases e:j=lo+n
 ·subst e
  by_cases z:i=lo+n-1
  ·rw[z];exact q
  ·exact FI (h i (lo+n-1) a (by lia) (by lia)) q
 ·exact h i j a b (by lia)
theorem wpS_countRun {st:SortSt}{lo z:Nat}{Q:Option Nat->SortSt->Prop}(C:Cmp prog w A s rk κ a₀.toList) (D:(a₀.toList.map rk).Nodup) (h1:1<=z) (hn:lo+z<=a₀.size) (M:SB a₀ κ P st)
  (h:∀ n q,SB a₀ κ P q->1<=n->n<=z->Seg rk (arrOf q) lo (lo+n)->(∀ k,(k<lo\/lo+z<=k)->(arrOf q)[k]? = (arrOf st)[k]?)->Q (some n) q):wpS (model prog w) A E s (countRun' lo z) Q st:=by
 have ne:∀ {q:SortSt},SB a₀ κ P q->∀ i j,i<j->j<a₀.size->¬ R rk (arrOf q) j<R rk (arrOf q) i->R rk (arrOf q) i<R rk (arrOf q) j:=λ G i j a b c=>by
  have:R rk (arrOf _) i≠R rk (arrOf _) j:=λ e=>by
   have:=gu D G.perm (by rw[G.size];lia) (by rw[G.size];lia) e
   lia
  lia
 have a8:∀ {q:SortSt},SB a₀ κ P q->∀ i j,i<j->j<a₀.size->¬ R rk (arrOf q) i<R rk (arrOf q) j->R rk (arrOf q) j<R rk (arrOf q) i:=λ G i j a b c=>by
  have:R rk (arrOf _) i≠R rk (arrOf _) j:=λ e=>by
   have:=gu D G.perm (by rw[G.size];lia) (by rw[G.size];lia) e
   lia
  lia
 rw[countRun'_eq]
 refine BO (Dn (CH (I:=λ x c q=>q=st/\c=(none,x)/\1<=x/\Seg rk (arrOf st) lo (lo+x))
  (Q:=λ c q=>q=st/\∃ n,c=(none,n)/\1<=n/\n<=z/\Seg rk (arrOf st) lo (lo+n)/\(n=z\/R rk (arrOf st) (lo+n)<R rk (arrOf st) (lo+n-1))) ?step ?fin ?init) ?post)
 case init=>exact⟨rfl,rfl,Nat.le_refl _,Seg.one⟩
 case fin=>
  rintro c q ⟨rfl,rfl,a,b⟩
  rw[show max 1 z=z by lia] at b ⊢
  exact⟨rfl,z,rfl,h1,Nat.le_refl _,b,.inl rfl⟩
 case step=>
  rintro x c q U a3 ⟨rfl,rfl,_,L⟩
  dsimp only
  refine BO (fi C M (by lia) (by lia) ?_)
  by_cases J:R rk (arrOf q) (lo+x)<R rk (arrOf q) (lo+x-1)
  ·simp only[J,Ef,DK]
   exact BZ ⟨rfl,x,rfl,U,by lia,L,.inr J⟩
  ·simp only[J,ED,B0,CJ]
   exact BZ ⟨rfl,rfl,by lia,L.grow U (ne M _ _ (by lia) (by lia) J)⟩
 case post=>
  rintro c q ⟨rfl,n,rfl,Y,Z,L,a7⟩
  dsimp only
  by_cases e:n=z
  ·rw[BN (by simp[e])]
   exact BZ (h n q M Y Z L λ _ _=>rfl)
  rw[BI (by simp[e])]
  have a4:=a7.resolve_left e
  by_cases g1:n>1
  ·rw[BN g1]
   refine BO (fi C M (by lia) (by lia) ?_)
   have:R rk (arrOf q) lo<R rk (arrOf q) (lo+n-1):=L _ _ (Nat.le_refl _) (by lia) (by lia)
   simp only[this,Ef,DK]
   exact BZ (h n q M Y Z L λ _ _=>rfl)
  rw[BI g1]
  have n1:n=1:=by lia
  subst n1
  refine BO (EZ (Dk ⟨rfl,?_⟩))
  have h2:2<=z:=by lia
  refine BO (Dn (CH (I:=λ x c F=>F=q/\c=(none,x,0)/\∀ i j,lo<=i->i<j->j<lo+x->R rk (arrOf q) j<R rk (arrOf q) i)
   (Q:=λ c F=>F=q/\∃ n,c=(none,n,0)/\2<=n/\n<=z/\∀ i j,lo<=i->i<j->j<lo+n->R rk (arrOf q) j<R rk (arrOf q) i) ?step2 ?fin2 ?init2) ?post2)
  case init2=>
   refine⟨rfl,rfl,λ i j a b c=>?_⟩
   have e1:i=lo:=by lia
   have e2:j=lo+1:=by lia
   rw[e1,e2]
   simpa using a4
  case fin2=>
   rintro c F ⟨rfl,rfl,b⟩
   rw[show max (1+1) z=z by lia] at b ⊢
   exact⟨rfl,z,rfl,h2,Nat.le_refl _,b⟩
  case step2=>
   rintro x c F U a3 ⟨rfl,rfl,hf⟩
   dsimp only
   refine BO (fi C M (by lia) (by lia) ?_)
   by_cases J:R rk (arrOf F) (lo+x)<R rk (arrOf F) (lo+x-1)
   ·simp only[J,Ef,DK]
    rw[BI (by lia)]
    refine BZ ⟨rfl,rfl,λ i j a b c=>?_⟩
    by_cases e:j=lo+x
    ·subst e
     by_cases e2:i=lo+x-1
     ·rw[e2];exact J
     ·exact FI J (hf i (lo+x-1) a (by lia) (by lia))
    ·exact hf i j a b (by lia)
   ·simp only[J,ED,B0,CJ]
    refine BO (fi C M (by lia) (by lia) ?_)
    have:=ne M _ _ (show lo+x-1<lo+x by lia) (by lia) J
    simp only[this,Ef,DK]
    exact BZ ⟨rfl,x,rfl,by lia,by lia,hf⟩
  case post2=>
   rintro c F ⟨rfl,n,rfl,Y,Z,hf⟩
   dsimp only
   rw[BI (by lia),reverseSlice'_eq]
   have hz:lo+n<=(arrOf F).size:=by rw[M.size];lia
   have O:SB a₀ κ P (setArr F (mirror (arrOf F) lo (lo+n) ((lo+n-lo)/2))):=M.setArr (mirror_perm _ _ _ _)
   have a2:Seg rk (mirror (arrOf F) lo (lo+n) ((lo+n-lo)/2)) lo (lo+n):=λ i j a b c=>by
    rw[lC hz,lC hz,BN (by lia),BN (by lia)]
    exact hf _ _ (by lia) (by lia) (by lia)
   have ho:∀ k,(k<lo\/lo+z<=k)->(mirror (arrOf F) lo (lo+n) ((lo+n-lo)/2))[k]? = (arrOf F)[k]?:=λ k hk=>by
    rw[getElem?_mirror_all hz,BI (by lia)]
   refine BO (DJ ?_)
   have W:Seg rk (arrOf (setArr F (mirror (arrOf F) lo (lo+n) ((lo+n-lo)/2)))) lo (lo+n):=a2
   have a1:∀ k,(k<lo\/lo+z<=k)->(arrOf (setArr F (mirror (arrOf F) lo (lo+n) ((lo+n-lo)/2))))[k]? = (arrOf F)[k]?:=ho
   clear a2 ho
   generalize setArr F (mirror (arrOf F) lo (lo+n) ((lo+n-lo)/2))=V at O W a1 ⊢
   refine BO (Dn (CH (I:=λ x c q=>q=V/\c=(none,x)/\Seg rk (arrOf V) lo (lo+x))
    (Q:=λ c q=>q=V/\∃ m,c=(none,m)/\1<=m/\m<=z/\Seg rk (arrOf V) lo (lo+m)) ?step3 ?fin3 ?init3) ?post3)
   case init3=>exact⟨rfl,rfl,W⟩
   case fin3=>
    rintro c q ⟨rfl,rfl,b⟩
    rw[show max n z=z by lia] at b ⊢
    exact⟨rfl,z,rfl,h1,Nat.le_refl _,b⟩
   case step3=>
    rintro x c q U a3 ⟨rfl,rfl,L⟩
    dsimp only
    refine BO (fi C O (by lia) (by lia) ?_)
    by_cases J:R rk (arrOf q) (lo+x)<R rk (arrOf q) (lo+x-1)
    ·simp only[J,Ef,DK]
     exact BZ ⟨rfl,x,rfl,by lia,by lia,L⟩
    ·simp only[J,ED,B0,CJ]
     exact BZ ⟨rfl,rfl,L.grow (by lia) (ne O _ _ (by lia) (by lia) J)⟩
   case post3=>
    rintro c q ⟨rfl,m,rfl,a5,a6,L⟩
    exact BZ (h m q O a5 a6 L a1)
noncomputable def dj:Bool->Keyed->Array Keyed->Nat->Nat->Nat->StateT SortSt Sem (Option Nat):=sortPriv% PySem.Builtin.gallop
noncomputable def uT (b:Nat->Bool) (n k:Nat):Prop:=k<=n/\(∀ i,i<k->b i=true)/\∀ i,k<=i->i<n->b i=false
theorem iK {st:SortSt}{left:Bool}{key:Keyed}{arr:Array Keyed}{base n hint k:Nat}{b:Nat->Bool}{Q:Option Nat->SortSt->Prop}
  (hb:∀ i,i<n->∀ (Q:Option Bool->SortSt->Prop),Q (some (b i)) st->wpS (model prog w) A E s (do
   let x <- elem' arr (base+i)
   if left then lt' x key else return (<- lt' key x).map (!·)) Q st)
  (hh:hint<n) (hf:uT b n k) (h:Q (some k) st):wpS (model prog w) A E s (dj left key arr base n hint) Q st:=by
 obtain⟨kn,kt,kf⟩:=hf
 have gt:∀ i,i<n->b i=true->i<k:=λ i a c=>E4 λ z=>by rw[kf i z a] at c;cases c
 have ge:∀ i,b i=false->k<=i:=λ i c=>Nat.le_of_not_lt λ z=>by rw[kt i z] at c;cases c
 change wpS (model prog w) A E s (bind _ _) Q st
 refine BO ?_
 refine hb hint hh _ ?_
 dsimp only
 cases hr:b hint with
 | true=>
  rw[BN rfl]
  refine BO (Dn (CH (I:=λ x c st'=>st'=st/\∃ la of,c=(none,la,of)/\x+1<=of/\hint+la<k)
   (Q:=λ c st'=>st'=st/\∃ la of,c=(none,la,of)/\hint+la<k/\(n-hint<=of\/k<=hint+of)) ?step ?fin ?init) ?post)
  case init=>exact⟨rfl,0,1,rfl,by lia,gt _ hh hr⟩
  case fin=>
   rintro c st' ⟨rfl,la,of,rfl,a,c⟩
   exact⟨rfl,la,of,rfl,c,.inl (by lia)⟩
  case step=>
   rintro x c st' _ hxn ⟨rfl,la,of,rfl,a,c⟩
   dsimp only
   by_cases g:of >= n-hint
   ·rw[BN g]
    exact BZ ⟨rfl,la,of,rfl,c,.inl g⟩
   ·rw[BI g]
    refine BO (hb (hint+of) (by lia) _ ?_)
    dsimp only
    cases hm:b (hint+of) with
    | true=>
     simp only[Du,B0,CJ]
     exact BZ ⟨rfl,of,2*of+1,rfl,by lia,gt _ (by lia) hm⟩
    | false=>
     simp only[Eo,DK]
     exact BZ ⟨rfl,la,of,rfl,c,.inr (ge _ hm)⟩
  case post=>
   rintro c st' ⟨rfl,la,of,rfl,c,d⟩
   dsimp only
   refine BO (Dn (CH (I:=λ x c st''=>st''=st'/\∃ lo hi,c=(none,lo,hi)/\lo<=k/\k<=hi/\hi<=n/\hi-lo<=n-x) (Q:=λ c st''=>st''=st'/\∃ lo,c=(none,lo,k)) ?step2 ?fin2 ?init2) ?post2)
   case init2=>exact⟨rfl,_,_,rfl,by lia,by lia,by lia,by lia⟩
   case fin2=>
    rintro c st'' ⟨rfl,lo,hi,rfl,e1,e2,e3,e4⟩
    have:hi=k:=by lia
    subst this
    exact⟨rfl,lo,rfl⟩
   case step2=>
    rintro x c st'' _ hxn ⟨rfl,lo,hi,rfl,e1,e2,e3,e4⟩
    dsimp only
    by_cases g:lo >= hi
    ·rw[BN g]
     have:hi=k:=by lia
     subst this
     exact BZ ⟨rfl,lo,rfl⟩
    ·rw[BI g]
     refine BO (hb (lo+(hi-lo)/2) (by lia) _ ?_)
     dsimp only
     cases hm:b (lo+(hi-lo)/2) with
     | true=>
      rw[BN rfl]
      have:=gt _ (by lia) hm
      exact BZ ⟨rfl,_,_,rfl,by lia,by lia,by lia,by lia⟩
     | false=>
      rw[BI (by decide)]
      have:=ge _ hm
      exact BZ ⟨rfl,_,_,rfl,by lia,by lia,by lia,by lia⟩
   case post2=>
    rintro c st'' ⟨rfl,lo,rfl⟩
    exact BZ h
 | false=>
  rw[BI (by decide)]
  refine BO (Dn (CH (I:=λ x c st'=>st'=st/\∃ la of,c=(none,la,of)/\x+1<=of/\k<=hint-la/\la<=hint)
   (Q:=λ c st'=>st'=st/\∃ la of,c=(none,la,of)/\k<=hint-la/\la<=hint/\(hint+1<=of\/(of<=hint/\hint-of<k))) ?step ?fin ?init) ?post)
  case init=>exact⟨rfl,0,1,rfl,by lia,by have:=ge _ hr;lia,by lia⟩
  case fin=>
   rintro c st' ⟨rfl,la,of,rfl,a,c,d⟩
   exact⟨rfl,la,of,rfl,c,d,.inl (by lia)⟩
  case step=>
   rintro x c st' _ hxn ⟨rfl,la,of,rfl,a,c,d⟩
   dsimp only
   by_cases g:of >= hint+1
   ·rw[BN g]
    exact BZ ⟨rfl,la,of,rfl,c,d,.inl g⟩
   ·rw[BI g]
    refine BO (hb (hint-of) (by lia) _ ?_)
    dsimp only
    cases hm:b (hint-of) with
    | true=>
     rw[BN rfl]
     exact BZ ⟨rfl,la,of,rfl,c,d,.inr ⟨by lia,gt _ (by lia) hm⟩⟩
    | false=>
     rw[BI (by decide)]
     exact BZ ⟨rfl,of,2*of+1,rfl,by lia,ge _ hm,by lia⟩
  case post=>
   rintro c st' ⟨rfl,la,of,rfl,c,d,e⟩
   dsimp only
   refine BO (Dn (CH (I:=λ x c st''=>st''=st'/\∃ lo hi,c=(none,lo,hi)/\lo<=k/\k<=hi/\hi<=n/\hi-lo<=n-x) (Q:=λ c st''=>st''=st'/\∃ lo,c=(none,lo,k)) ?step2 ?fin2 ?init2) ?post2)
   case init2=>exact⟨rfl,_,_,rfl,by lia,by lia,by lia,by lia⟩
   case fin2=>
    rintro c st'' ⟨rfl,lo,hi,rfl,e1,e2,e3,e4⟩
    have:hi=k:=by lia
    subst this
    exact⟨rfl,lo,rfl⟩
   case step2=>
    rintro x c st'' _ hxn ⟨rfl,lo,hi,rfl,e1,e2,e3,e4⟩
    dsimp only
    by_cases g:lo >= hi
    ·rw[BN g]
     have:hi=k:=by lia
     subst this
     exact BZ ⟨rfl,lo,rfl⟩
    ·rw[BI g]
     refine BO (hb (lo+(hi-lo)/2) (by lia) _ ?_)
     dsimp only
     cases hm:b (lo+(hi-lo)/2) with
     | true=>
      rw[BN rfl]
      have:=gt _ (by lia) hm
      exact BZ ⟨rfl,_,_,rfl,by lia,by lia,by lia,by lia⟩
     | false=>
      rw[BI (by decide)]
      have:=ge _ hm
      exact BZ ⟨rfl,_,_,rfl,by lia,by lia,by lia,by lia⟩
   case post2=>
    rintro c st'' ⟨rfl,lo,rfl⟩
    exact BZ h
end
section
variable {rk:Keyed->Int}
noncomputable abbrev Asc (rk:Keyed->Int) (l:List Keyed):Prop:=l.Pairwise λ x y=>rk x<rk y
structure ML (rk:Keyed->Int) (X Y O:List Keyed) (i j:Nat):Prop where
 perm:O.Perm (X.take i++Y.take j)
 srt:Asc rk O
 la:∀ x∈O,∀ y∈X.drop i,rk x<rk y
 lb:∀ x∈O,∀ y∈Y.drop j,rk x<rk y
theorem i7 {X:List Keyed}(i k:Nat):X.drop i=(X.drop i).take k++X.drop (i+k):=by
 rw[<- List.drop_drop];exact(Dh k _).symm
theorem ML.a {X Y O:List Keyed}{i j k:Nat}(m:ML rk X Y O i j) (sX:Asc rk X) (h:∀ y∈(X.drop i).take k,∀ z∈Y.drop j,rk y<rk z):ML rk X Y (O++(X.drop i).take k) (i+k) j:=by
 have sd:Asc rk (X.drop i):=sX.sublist (En _ _)
 rw[i7 i k] at sd
 obtain⟨s1,s2,s3⟩:=Co.mp sd
 refine⟨?_,Co.mpr ⟨m.srt,s1,λ x hx y hy=>m.la x hx y (List.mem_of_mem_take hy)⟩,λ x hx y hy=>?_,λ x hx y hy=>?_⟩
 ·refine(m.perm.append_right _).trans ?_
  rw[List.take_add,CI,CI]
  exact Et _ DB
 ·rcases BH.mp hx with hx|hx
  ·refine m.la x hx y ?_
   rw[i7 i k];exact BG _ hy
  ·exact s3 x hx y hy
 ·rcases BH.mp hx with hx|hx
  ·exact m.lb x hx y hy
  ·exact h x hx y hy
theorem ML.swap (m:ML rk X Y O i j):ML rk Y X O j i:=⟨m.perm.trans DB,m.srt,m.lb,m.la⟩
theorem ML.b (m:ML rk X Y O i j) (q:Asc rk Y) (h:∀ y∈(Y.drop j).take k,∀ z∈X.drop i,rk y<rk z):ML rk X Y (O++(Y.drop j).take k) i (j+k):=(m.swap.a q h).swap
theorem ML.zF (m:ML rk X Y O i j) (z:Asc rk X) (q:Y.length<=j):(O++X.drop i).Perm (X++Y)/\Asc rk (O++X.drop i):=by
 refine⟨?_,Co.mpr ⟨m.srt,z.sublist (En _ _),m.la⟩⟩
 refine(m.perm.append_right _).trans ?_
 rw[Dt q,CI]
 refine(Et _ DB).trans ?_
 rw[<- CI,Dh]
theorem ML.wZ (m:ML rk X Y O i j) (F:Asc rk X) (G:Asc rk Y) (h:∀ y∈Y.drop j,∀ x∈X.drop i,rk y<rk x):(O++Y.drop j++X.drop i).Perm (X++Y)/\Asc rk (O++Y.drop j++X.drop i):=by
 refine⟨?_,Co.mpr ⟨Co.mpr ⟨m.srt,G.sublist (En _ _),m.lb⟩,F.sublist (En _ _),λ x q y z=>?_⟩⟩
 ·refine((m.perm.append_right _).append_right _).trans ?_
  rw[CI (X.take i),Dh]
  refine(List.perm_append_comm.append_right _).trans ?_
  rw[CI,Dh]
  exact DB
 ·rcases BH.mp q with q|q
  ·exact m.la x q y z
  ·exact h x q y z
theorem nT (h:Seg rk xs 0 xs.size):Asc rk xs.toList:=by
 unfold Asc
 rw[Dg]
 intro i j hi z q
 have:=h i j (Cf _) q (by simpa using z)
 rw[bN (by simpa using hi),bN (by simpa using z)] at this
 simpa using this
theorem fu (h:Asc rk xs.toList):Seg rk xs 0 xs.size:=λ i j a b c=>by
 unfold Asc at h
 rw[Dg] at h
 have:=h i j (by simp;lia) (by simpa using c) b
 rw[bN (by lia),bN c]
 simpa using this
theorem cE {xs:Array Keyed}{i:Nat}{y:Keyed}(h:y∈xs.toList.drop i):∃ k,i<=k/\∃ q:k<xs.size,y=xs[k]:=by
 obtain⟨n,j,e⟩:=C6.mp h
 rw[E5] at j
 refine⟨i+n,by lia,by simp at j;lia,?_⟩
 rw[<- e,List.getElem_drop];simp
theorem gT {xs:Array Keyed}{i k:Nat}{y:Keyed}(h:y∈(xs.toList.drop i).take k):∃ n,n<k/\∃ q:i+n<xs.size,y=xs[i+n]:=by
 obtain⟨n,j,e⟩:=C6.mp h
 rw[CB,E5] at j
 refine⟨n,by lia,by simp at j;lia,?_⟩
 rw[<- e,List.getElem_take,List.getElem_drop];simp
theorem iL:∀ (n:Nat),(∀ i j,i<=j->j<n->b j=true->b i=true)->∃ k,uT b n k
 | 0,_=>⟨0,Nat.le_refl _,λ i h=>by lia,λ i _ h=>by lia⟩
 | n+1,m=>by
  cases h:b n with
  | true=>exact⟨n+1,Nat.le_refl _,λ i hi=>m i n (by lia) (by lia) h,λ i a c=>by lia⟩
  | false=>
   obtain⟨k,h1,h2,q⟩:=iL n λ i j a c=>m i j a (by lia)
   refine⟨k,by lia,h2,λ i a c=>?_⟩
   by_cases e:i=n
   ·rw[e];exact h
   ·exact q i a (by lia)
end
section
variable {prog:Program}{w:World}{A:Around}{E:Value->Shared->Prop}{s:Shared}{rk:Keyed->Int}{κ:SortKind}{a₀:Array Keyed}
theorem eQ {st:SortSt}{key:Keyed}{arr:Array Keyed}{base n hint:Nat}{Q:Option Nat->SortSt->Prop}(C:Cmp prog w A s rk κ a₀.toList) (M:kindOf st=κ) (U:key∈a₀.toList) (O:∀ i (h:base+i<arr.size),i<n->arr[base+i]∈a₀.toList)
  (hz:base+n<=arr.size) (hs:Seg rk arr base (base+n)) (J:hint<n)
  (h:∀ k,k<=n->(∀ i,i<k->R rk arr (base+i)<=rk key)->(∀ i,k<=i->i<n->rk key<R rk arr (base+i))->Q (some k) st):wpS (model prog w) A E s (dj false key arr base n hint) Q st:=by
 obtain⟨k,F⟩:=iL (b:=λ i=>!decide (rk key<R rk arr (base+i))) n λ i j L W e=>by
  simp only[Bool.not_eq_true',Eg] at e ⊢
  by_cases q:i=j
  ·rw[q];exact e
  ·have:=hs (base+i) (base+j) (by lia) (by lia) (by lia)
   lia
 refine iK (b:=λ i=>!decide (rk key<R rk arr (base+i))) (k:=k) (λ i hi V G=>?_) J F (h k F.1 (λ i hi=>?_) λ i a c=>?_)
 ·have z:base+i<arr.size:=by lia
  refine BO (br z ?_)
  simp only[B0,CJ]
  refine BO (iU C M U (O i z hi) (BZ ?_))
  rw[bN z] at G
  exact G
 ·have:=F.2.1 i hi
  simp only[Bool.not_eq_true',Eg] at this
  lia
 ·have:=F.2.2 i a c
  simpa using this
theorem eS {st:SortSt}{key:Keyed}{arr:Array Keyed}{base n hint:Nat}{Q:Option Nat->SortSt->Prop}(C:Cmp prog w A s rk κ a₀.toList) (M:kindOf st=κ) (U:key∈a₀.toList) (O:∀ i (h:base+i<arr.size),i<n->arr[base+i]∈a₀.toList)
  (hz:base+n<=arr.size) (hs:Seg rk arr base (base+n)) (J:hint<n)
  (h:∀ k,k<=n->(∀ i,i<k->R rk arr (base+i)<rk key)->(∀ i,k<=i->i<n->rk key<=R rk arr (base+i))->Q (some k) st):wpS (model prog w) A E s (dj true key arr base n hint) Q st:=by
 obtain⟨k,F⟩:=iL (b:=λ i=>decide (R rk arr (base+i)<rk key)) n λ i j L W e=>by
  simp only[C0] at e ⊢
  by_cases q:i=j
  ·rw[q];exact e
  ·have:=hs (base+i) (base+j) (by lia) (by lia) (by lia)
   lia
 refine iK (b:=λ i=>decide (R rk arr (base+i)<rk key)) (k:=k) (λ i hi V G=>?_) J F (h k F.1 (λ i hi=>?_) λ i a c=>?_)
 ·have z:base+i<arr.size:=by lia
  refine BO (br z ?_)
  simp only[DK]
  refine iU C M (O i z hi) U ?_
  rw[bN z] at G
  exact G
 ·have:=F.2.1 i hi
  simpa using this
 ·have:=F.2.2 i a c
  simp only[Eg] at this
  lia
theorem jM {a:Array Keyed}{i k:Nat}:(a.extract i (i+k)).toList=(a.toList.drop i).take k:=by
 rw[C7]
 simp
theorem fQ {a:Array Keyed}{i:Nat}:(a.extract i).toList=a.toList.drop i:=by
 rw[C7]
 simp
 exact Dt (by simp)
theorem fB {a:Array Keyed}{i:Nat}(h:i<a.size):(a.toList.drop i).take 1=[a[i]]:=by
 rw[ES (by simpa using h)]
 simp
theorem Asc.ge (s:Asc rk a.toList) (h:i<=k) (j:k<a.size):R rk a i<=R rk a k:=by
 by_cases e:i=k
 ·rw[e];exact CS _
 ·exact Int.le_of_lt (fu s i k (Cf _) (by lia) j)
theorem bx {σ j:Type}{M:Model}{c:Prop} [Decidable c] {x y:StateT σ Sem j}{Q:j->σ->Prop}{st:σ}(h1:c->wpS M A E s x Q st) (h2:¬ c->wpS M A E s y Q st):wpS M A E s (if c then x else y) Q st:=by
 by_cases h:c
 ·rw[BN h];exact h1 h
 ·rw[BI h];exact h2 h
noncomputable def kW:Array Keyed->Array Keyed->StateT SortSt Sem (Array Keyed):=sortPriv% PySem.Builtin.mergeLo
noncomputable def ml:Array Keyed->Array Keyed->StateT SortSt Sem (Array Keyed):=sortPriv% PySem.Builtin.mergeHi
noncomputable def dC (st st':SortSt):Prop:=arrOf st'=arrOf st/\kindOf st'=kindOf st/\failedOf st'=failedOf st/\pendingOf st'=pendingOf st
theorem dC.refl {st:SortSt}:dC st st:=⟨rfl,rfl,rfl,rfl⟩
theorem dC.trans (h:dC a b) (k:dC b c):dC a c:=⟨k.1.trans h.1,k.2.1.trans h.2.1,k.2.2.1.trans h.2.2.1,k.2.2.2.trans h.2.2.2⟩
noncomputable def setG:Nat->StateT SortSt Sem Unit:=sortPriv% PySem.Builtin.setMinGallop
noncomputable abbrev Go:=Option (Array Keyed)×Array Keyed×Nat×Nat×Nat×Nat×Nat
section
variable (a b:Array Keyed)
noncomputable def loC (mg ac bc i:Nat) (o:Array Keyed) (j:Nat):StateT SortSt Sem (ForInStep Go):=
 elem' a i >>= λ x=>if i+1+1 == a.size then pure (.done (some (o.push x++b.extract j++a.extract (i+1)),o.push x,i+1,j,mg,ac,bc))
  else if decide (ac<7) && decide (bc<7) then pure (.done (none,o.push x,i+1,j,mg,ac,bc)) else pure (.yield (none,o.push x,i+1,j,mg,ac,bc))
noncomputable def loB (mg ac bc j:Nat) (o:Array Keyed) (i:Nat):StateT SortSt Sem (ForInStep Go):=
 elem' b j >>= λ x=>if j+1 == b.size then pure (.done (some (o.push x++a.extract i++b.extract (j+1)),o.push x,i,j+1,mg,ac,bc))
  else elem' a i >>= λ y=>dj true y b (j+1) (b.size-(j+1)) 0 >>= fun
  | some k=>if k>0 then if j+1+k == b.size then pure (.done (some (o.push x++b.extract (j+1) (j+1+k)++a.extract i++b.extract (j+1+k)),o.push x++b.extract (j+1) (j+1+k),i,j+1+k,mg,ac,k))
    else loC a b mg ac k i (o.push x++b.extract (j+1) (j+1+k)) (j+1+k) else loC a b mg ac k i (o.push x) (j+1)
  | _=>pure (.done (some (o.push x++a.extract i++b.extract (j+1)),o.push x,i,j+1,mg,ac,bc))
noncomputable def loA (ac bc i j:Nat) (o:Array Keyed) (mg:Nat):StateT SortSt Sem (ForInStep Go):=
 setG mg >>= λ _=>elem' b j >>= λ x=>dj false x a i (a.size-i) 0 >>= fun
 | some k=>if k>0 then if i+k+1 == a.size then pure (.done (some (o++a.extract i (i+k)++b.extract j++a.extract (i+k)),o++a.extract i (i+k),i+k,j,mg,k,bc))
   else if i+k == a.size then pure (.done (some (o++a.extract i (i+k)++a.extract (i+k)++b.extract j),o++a.extract i (i+k),i+k,j,mg,k,bc)) else loB a b mg k bc j (o++a.extract i (i+k)) (i+k) else loB a b mg k bc j o i
 | _=>pure (.done (some (o++a.extract i++b.extract j),o,i,j,mg,ac,bc))
end
theorem dA {m n:Nat}(h:¬ (m == n)=true):m≠n:=by simpa using h
noncomputable def GI (rk:Keyed->Int) (a b:Array Keyed) (st:SortSt) (z y:Nat) (c:Go) (st':SortSt):Prop:=dC st st'/\∃ out i j mg ac bc,c=(none,out,i,j,mg,ac,bc)/\ML rk a.toList b.toList out.toList i j/\i+1<a.size/\j<b.size/\z+y<=i+j
noncomputable def GQ (rk:Keyed->Int) (a b:Array Keyed) (st:SortSt) (z:Nat) (c:Go) (st':SortSt):Prop:=dC st st'/\((∃ r rest,c=(some r,rest)/\r.toList.Perm (a.toList++b.toList)/\Asc rk r.toList)\/∃ out i j mg ac bc,c=(none,out,i,j,mg,ac,bc)/\ML rk a.toList b.toList out.toList i j/\i+1<a.size/\j<b.size/\z<=i+j)
set_option maxHeartbeats 4000000 in
theorem l9 {st:SortSt}{a b:Array Keyed}{Q:Array Keyed->SortSt->Prop}(C:Cmp prog w A s rk κ a₀.toList) (hk:kindOf st=κ) (ma:∀ x∈a.toList,x∈a₀.toList) (mb:∀ x∈b.toList,x∈a₀.toList)
  (D:∀ i j,i<a.size->j<b.size->R rk a i≠R rk b j) (sa:Asc rk a.toList) (sb:Asc rk b.toList) (h1:1<=a.size) (h2:1<=b.size) (h0:∀ i,i<a.size->R rk b 0<R rk a i) (hl:∀ j,j<b.size->R rk b j<R rk a (a.size-1))
  (h:∀ (out:Array Keyed) G,dC st G->out.toList.Perm (a.toList++b.toList)->Asc rk out.toList->Q out G):wpS (model prog w) A E s (kW a b) Q st:=by
 have mA:∀ i (h:i<a.size),a[i]∈a₀.toList:=λ i h=>ma _ (by simp)
 have mB:∀ i (h:i<b.size),b[i]∈a₀.toList:=λ i h=>mb _ (by simp)
 have a4:∀ {out:Array Keyed} {ia ib:Nat} (h:ia<a.size),ML rk a.toList b.toList out.toList ia ib->(∀ j,ib<=j->j<b.size->R rk a ia<R rk b j)->ML rk a.toList b.toList (out.push a[ia]).toList (ia+1) ib:=λ{out ia ib} h m q=>by
  have:=m.a (k:=1) sa λ y Y z hz=>by
   rw[fB h,BD] at Y
   obtain⟨k,k1,k2,rfl⟩:=cE hz
   have:=q k k1 k2
   rw[bN h,bN k2] at this
   rw[Y];exact this
  rw[fB h] at this
  rw[DH];exact this
 have a2:∀ {out:Array Keyed} {ia ib:Nat} (h:ib<b.size),ML rk a.toList b.toList out.toList ia ib->(∀ j,ia<=j->j<a.size->R rk b ib<R rk a j)->ML rk a.toList b.toList (out.push b[ib]).toList ia (ib+1):=λ{out ia ib} h m q=>by
  have:=m.b (k:=1) sb λ y Y z hz=>by
   rw[fB h,BD] at Y
   obtain⟨k,k1,k2,rfl⟩:=cE hz
   have:=q k k1 k2
   rw[bN h,bN k2] at this
   rw[Y];exact this
  rw[fB h] at this
  rw[DH];exact this
 have a5:∀ {out:Array Keyed} {ia ib k:Nat},ML rk a.toList b.toList out.toList ia ib->(∀ i,i<k->ia+i<a.size->∀ j,ib<=j->j<b.size->R rk a (ia+i)<R rk b j)->ML rk a.toList b.toList (out++a.extract ia (ia+k)).toList (ia+k) ib:=λ{out ia ib k} m q=>by
  rw[CF,jM]
  refine m.a sa λ y Y z hz=>?_
  obtain⟨n,n1,n2,rfl⟩:=gT Y
  obtain⟨j,j1,Z,rfl⟩:=cE hz
  have:=q n n1 n2 j j1 Z
  rw[bN n2,bN Z] at this
  exact this
 have a6:∀ {out:Array Keyed} {ia ib k:Nat},ML rk a.toList b.toList out.toList ia ib->(∀ i,i<k->ib+i<b.size->∀ j,ia<=j->j<a.size->R rk b (ib+i)<R rk a j)->ML rk a.toList b.toList (out++b.extract ib (ib+k)).toList ia (ib+k):=λ{out ia ib k} m q=>by
  rw[CF,jM]
  refine m.b sb λ y Y z hz=>?_
  obtain⟨n,n1,n2,rfl⟩:=gT Y
  obtain⟨j,j1,Z,rfl⟩:=cE hz
  have:=q n n1 n2 j j1 Z
  rw[bN n2,bN Z] at this
  exact this
 have V:∀ {out:Array Keyed} {ia ib:Nat},ML rk a.toList b.toList out.toList ia ib->b.size<=ib->(out++a.extract ia++b.extract ib).toList.Perm (a.toList++b.toList)/\Asc rk (out++a.extract ia++b.extract ib).toList:=λ{out ia ib} m q=>by
  rw[CF,CF,fQ,fQ,List.drop_of_length_le (l:=b.toList) (by simpa using q),Dr]
  exact m.zF sa (by simpa using q)
 have W:∀ {out:Array Keyed} {ia ib:Nat},ML rk a.toList b.toList out.toList ia ib->ia+1=a.size->(out++b.extract ib++a.extract ia).toList.Perm (a.toList++b.toList)/\Asc rk (out++b.extract ib++a.extract ia).toList:=λ{out ia ib} m q=>by
  rw[CF,CF,fQ,fQ]
  refine m.wZ sa sb λ y Y x hx=>?_
  obtain⟨j,j1,Z,rfl⟩:=cE Y
  obtain⟨i,i1,i2,rfl⟩:=cE hx
  have e:i=a.size-1:=by lia
  have:=hl j Z
  rw[bN Z,bN (by lia)] at this
  subst e
  exact this
 change wpS (model prog w) A E s (bind _ _) Q st
 refine BO (EZ (Dk ⟨rfl,?_⟩))
 dsimp only
 refine BO (br (show 0<b.size by lia) ?_)
 have m0:ML rk a.toList b.toList (#[b[0]]:Array Keyed).toList 0 1:=by
  have:=a2 (out:=#[]) (ia:=0) (ib:=0) (show 0<b.size by lia) ⟨.nil,.nil,(λ x hx=>by cases hx),(λ x hx=>by cases hx)⟩ λ j _ hj=>h0 j hj
  exact this
 by_cases c1:1=b.size
 ·rw[BN (by simpa using c1)]
  obtain⟨p,q⟩:=V m0 (Ek c1.symm)
  exact BZ (h _ _ .refl p q)
 rw[BI (by simpa using c1)]
 by_cases c2:0+1=a.size
 ·rw[BN (by simpa using c2)]
  obtain⟨p,q⟩:=W m0 c2
  exact BZ (h _ _ .refl p q)
 rw[BI (by simpa using c2)]
 refine BO (D9 ?_)
 refine BO (Dn (CH (I:=λ x c G=>dC st G/\∃ out ia ib mg,c=(none,out,ia,ib,mg)/\ML rk a.toList b.toList out.toList ia ib/\ia+1<a.size/\ib<b.size/\x<=ia+ib)
  (Q:=λ c G=>dC st G/\∃ r rest,c=(some r,rest)/\r.toList.Perm (a.toList++b.toList)/\Asc rk r.toList) ?step ?fin ?init) ?post)
 case init=>exact⟨.refl,_,0,1,_,rfl,m0,by lia,by lia,by lia⟩
 case fin=>
  rintro c G ⟨U,out,ia,ib,mg,rfl,m,e1,e2,e3⟩
  lia
 case post=>
  rintro c G ⟨U,r,rest,rfl,p,q⟩
  exact BZ (h r G U p q)
 case step=>
  rintro x c G _ hx ⟨U,out,ia,ib,mg,rfl,m,e1,e2,e3⟩
  dsimp only
  refine BO (Dn (CH (I:=λ y c L=>L=G/\∃ out F J ac M,c=(none,out,F,J,ac,M)/\ML rk a.toList b.toList out.toList F J/\F+1<a.size/\J<b.size/\ia+ib+y<=F+J)
   (Q:=λ c L=>L=G/\((∃ r rest,c=(some r,rest)/\r.toList.Perm (a.toList++b.toList)/\Asc rk r.toList)\/∃ out F J ac M,c=(none,out,F,J,ac,M)/\ML rk a.toList b.toList out.toList F J/\F+1<a.size/\J<b.size/\ia+ib<F+J)) ?istep ?ifin ?iinit) ?ipost)
  case iinit=>exact⟨rfl,_,_,_,_,_,rfl,m,e1,e2,by lia⟩
  case ifin=>
   rintro c L ⟨rfl,out,F,J,ac,M,rfl,m,f1,f2,f3⟩
   lia
  case istep=>
   rintro y c L _ Y ⟨rfl,out,F,J,ac,M,rfl,m,f1,f2,f3⟩
   dsimp only
   refine BO (br f2 (BO (br (show F<a.size by lia) ?_)))
   refine BO (iU C (U.2.1.trans hk) (mB _ f2) (mA _ (by lia)) ?_)
   have ra:R rk a F=rk a[F]:=bN (by lia)
   have rb:R rk b J=rk b[J]:=bN f2
   by_cases bw:rk b[J]<rk a[F]
   ·simp only[bw,Ef,DK]
    refine BO (br f2 ?_)
    have m':=a2 f2 m λ j j1 Z=>by have:=sa.ge j1 Z;lia
    by_cases g:J+1=b.size
    ·rw[BN (by simpa using g)]
     exact BZ ⟨rfl,.inl ⟨_,_,rfl,V m' (Ek g.symm)⟩⟩
    ·rw[BI (by simpa using g)]
     split
     ·exact BZ ⟨rfl,.inr ⟨_,_,_,_,_,rfl,m',f1,by lia,by lia⟩⟩
     ·exact BZ ⟨rfl,_,_,_,_,_,rfl,m',f1,by lia,by lia⟩
   ·simp only[bw,ED,B0,CJ]
    refine BO (br (show F<a.size by lia) ?_)
    have nd:=D F J (by lia) f2
    have m':=a4 (show F<a.size by lia) m λ j j1 Z=>by have:=sb.ge j1 Z;lia
    by_cases g:F+1+1=a.size
    ·rw[BN (by simpa using g)]
     exact BZ ⟨rfl,.inl ⟨_,_,rfl,W m' g⟩⟩
    ·rw[BI (by simpa using g)]
     split
     ·exact BZ ⟨rfl,.inr ⟨_,_,_,_,_,rfl,m',by lia,f2,by lia⟩⟩
     ·exact BZ ⟨rfl,_,_,_,_,_,rfl,m',by lia,f2,by lia⟩
  case ipost=>
   rintro c L ⟨rfl,⟨r,rest,rfl,p,q⟩|⟨out,F,J,ac,M,rfl,m,f1,f2,f3⟩⟩
   ·exact BZ ⟨U,r,_,rfl,p,q⟩
   dsimp only
   refine BO (EZ (Dk ⟨rfl,?_⟩))
   refine BO (Dn (CH (I:=GI rk a b st (F+J))
    (Q:=GQ rk a b st (F+J)) ?gstep ?gfin ?ginit) ?gpost)
   case ginit=>exact⟨U,_,_,_,_,_,_,rfl,m,f1,f2,by lia⟩
   case gfin=>
    rintro c a3 ⟨O,out,i,j,mg,ac,M,rfl,m,g1,g2,g3⟩
    lia
   case gpost=>
    rintro c a3 ⟨O,⟨r,rest,rfl,p,q⟩|⟨out,i,j,mg,ac,M,rfl,m,g1,g2,g3⟩⟩
    ·exact BZ ⟨O,r,_,rfl,p,q⟩
    ·dsimp only
     refine BO (DJ (BZ ⟨O.trans ⟨rfl,rfl,rfl,rfl⟩,_,_,_,_,rfl,m,g1,g2,by lia⟩))
   case gstep=>
    rintro y c a3 _ Y ⟨O,out,i,j,mg,ac,M,rfl,m,g1,g2,g3⟩
    suffices H:∀ PP:ForInStep Go->SortSt->Prop,(∀ c G,GQ rk a b st (F+J) c G->PP (.done c) G)->(∀ c G,GI rk a b st (F+J) (y+1) c G->PP (.yield c) G)->wpS (model prog w) A E s (if mg>1 then loA a b ac M i j out (mg-1) else loA a b ac M i j out mg) PP a3 from H _ (λ _ _ h=>h) λ _ _ h=>h
    intro PP hd aa
    have G3:∀ {mg ac M i o j} {G:SortSt},dC st G->ML rk a.toList b.toList o.toList i j->i+1<a.size->j<b.size->F+J+y<=i+j->(∀ n,j<=n->n<b.size->R rk a i<R rk b n)->wpS (model prog w) A E s (loC a b mg ac M i o j) PP G:=λ U m hi hj hz af=>by
     refine BO (br (EU hi) ?_)
     have M4:=a4 (EU hi) m af
     refine bx (λ e=>BZ (hd _ _ ⟨U,.inl ⟨_,_,rfl,W M4 (by simpa using e)⟩⟩)) λ e=>?_
     have e':=Ft hi (dA e)
     exact bx (λ _=>BZ (hd _ _ ⟨U,.inr ⟨_,_,_,_,_,_,rfl,M4,e',hj,by lia⟩⟩)) λ _=>BZ (aa _ _ ⟨U,_,_,_,_,_,_,rfl,M4,e',hj,by lia⟩)
    have G2:∀ {mg ac M i o} {G:SortSt},dC st G->ML rk a.toList b.toList o.toList i j->i+1<a.size->F+J+y<=i+j->(∀ n,i<=n->n<a.size->R rk b j<R rk a n)->wpS (model prog w) A E s (loB a b mg ac M j o i) PP G:=λ{mg ac M i o G} U m hi hz af=>by
     have A1:=EU hi
     have M2:=a2 g2 m af
     refine BO (br g2 (bx (λ c3=>BZ (hd _ _ ⟨U,.inl ⟨_,_,rfl,V M2 (Ek (Eq.symm (by simpa using c3)))⟩⟩)) λ c3=>?_))
     have a9:=Ft g2 (dA c3)
     refine BO (br A1 (BO (eS C (U.2.1.trans hk) (mA _ A1) (λ n hn _=>mB _ hn) (by lia) (λ p q a b c=>fu sb p q (Cf _) b (by lia)) (by lia) λ k k1 k2 k3=>?_)))
     rw[<- bN (rk:=rk) A1] at k2 k3
     have a8:=a6 (k:=k) M2 λ n n1 n2 q q1 q2=>Int.lt_of_lt_of_le (k2 n n1) (sa.ge q1 q2)
     have a1:∀ n,j+1+k<=n->n<b.size->R rk a i<R rk b n:=λ n n1 n2=>by
      have h3:=k3 (n-(j+1)) (by lia) (by lia)
      rw[show j+1+(n-(j+1))=n by lia] at h3
      exact Ey.mpr ⟨h3,D i n A1 n2⟩
     refine bx (λ d0=>bx (λ d1=>BZ (hd _ _ ⟨U,.inl ⟨_,_,rfl,V a8 (Ek (Eq.symm (by simpa using d1)))⟩⟩)) λ d1=>?_) λ d0=>?_
     ·exact G3 U a8 hi (by have:=dA d1;lia) (by lia) a1
     ·exact G3 U M2 hi a9 (by lia) λ n n1=>a1 n (by lia)
    have G1:∀ mg,wpS (model prog w) A E s (loA a b ac M i j out mg) PP a3:=λ mg=>by
     refine BO (DJ (BO (br g2 (BO (eQ C (O.2.1.trans hk) (mB _ g2) (λ n hn _=>mA _ hn) (by lia) (λ p q a b c=>fu sa p q (Cf _) b (by lia)) (by lia) λ k k1 k2 k3=>?_)))))
     rw[<- bN (rk:=rk) g2] at k2 k3
     have a1:∀ n,i+k<=n->n<a.size->R rk b j<R rk a n:=λ n n1 n2=>by
      have h3:=k3 (n-i) (by lia) (by lia)
      rwa [show i+(n-i)=n by lia] at h3
     have a7:=a5 (k:=k) m λ n n1 n2 q q1 q2=>Int.lt_of_lt_of_le (Ey.mpr ⟨k2 n n1,D (i+n) j n2 g2⟩) (sb.ge q1 q2)
     have kl:i+k<a.size:=by
      refine E4 λ z=>?_
      have h3:=k2 (a.size-1-i) (by lia)
      rw[show i+(a.size-1-i)=a.size-1 by lia] at h3
      exact Int.not_le.mpr (hl j g2) h3
     refine bx (λ k0=>bx (λ c1=>BZ (hd _ _ ⟨O.trans ⟨rfl,rfl,rfl,rfl⟩,.inl ⟨_,_,rfl,W a7 (by simpa using c1)⟩⟩)) λ c1=>bx (λ c2=>absurd (by simpa using c2) (BU kl)) λ c2=>?_) λ k0=>?_
     ·exact G2 (O.trans ⟨rfl,rfl,rfl,rfl⟩) a7 (by have:=dA c1;lia) (by lia) a1
     ·exact G2 (O.trans ⟨rfl,rfl,rfl,rfl⟩) m g1 (by lia) λ n n1=>a1 n (by lia)
    exact bx (λ _=>G1 _) λ _=>G1 _
end
section
variable {rk:Keyed->Int}
noncomputable abbrev ng (rk:Keyed->Int):Keyed->Int:=λ x=>- rk x
theorem hV:Asc (ng rk) l↔Asc rk l.reverse:=by
 unfold Asc ng
 rw[List.pairwise_reverse]
 constructor
 ·exact λ h=>h.imp λ h=>by lia
 ·exact λ h=>h.imp λ h=>by lia
theorem iE {a:Array Keyed}{na:Nat}(h:na<=a.size):a.toList.reverse.drop (a.size-na)=(a.toList.take na).reverse:=by
 rw[List.drop_reverse]
 congr 2
 simp;lia
theorem cu {a:Array Keyed}{na:Nat}(h:na<=a.size) {y:Keyed}(j:y∈a.toList.reverse.drop (a.size-na)):∃ k,k<na/\∃ z:k<a.size,y=a[k]:=by
 rw[iE h,List.mem_reverse] at j
 obtain⟨n,q,e⟩:=C6.mp j
 rw[CB] at q
 refine⟨n,by lia,by lia,?_⟩
 rw[<- e,List.getElem_take];simp
theorem fC {a:Array Keyed}{na at_:Nat}(h:na<=a.size) (h2:at_<=na):(a.toList.reverse.drop (a.size-na)).take (na-at_)=(a.extract at_ na).toList.reverse:=by
 rw[iE h,List.take_reverse,C7]
 congr 1
 rw[CB,BP,Nat.min_eq_left h,show na-(na-at_)=at_ by lia,D2,List.drop_take]
theorem fI {a:Array Keyed}{na at_:Nat}(h:na<=a.size) (h2:at_<=na) {y:Keyed}(j:y∈(a.toList.reverse.drop (a.size-na)).take (na-at_)):∃ n,at_<=n/\n<na/\∃ z:n<a.size,y=a[n]:=by
 rw[fC h h2,List.mem_reverse,C7,D2] at j
 obtain⟨n,q,e⟩:=C6.mp j
 simp at q
 refine⟨at_+n,by lia,by lia,by lia,?_⟩
 rw[<- e];simp
theorem hZ {a:Array Keyed}{na:Nat}(h:na+1<=a.size):(a.toList.reverse.drop (a.size-(na+1))).take 1=[a[na]]:=by
 have:=fC (a:=a) (na:=na+1) (at_:=na) h (by lia)
 rw[show na+1-na=1 by lia] at this
 rw[this,C7]
 simp
 rw[ES (by simp;lia)]
 simp
end
section
variable {prog:Program}{w:World}{A:Around}{E:Value->Shared->Prop}{s:Shared}{rk:Keyed->Int}{κ:SortKind}{a₀:Array Keyed}
noncomputable abbrev Hm (rk:Keyed->Int) (a b o:Array Keyed) (i j:Nat):Prop:=ML (ng rk) a.toList.reverse b.toList.reverse o.toList (a.size-i) (b.size-j)
noncomputable abbrev Gh:=Option (Array Keyed)×Nat×Nat×Array Keyed×Nat×Nat×Nat
section
variable (a b:Array Keyed)
noncomputable def hiC (mg ac bc i:Nat) (o:Array Keyed) (j:Nat):StateT SortSt Sem (ForInStep Gh):=
 elem' a (i-1) >>= λ x=>if i-1 == 0 then pure (.done (some (a.extract 0 (i-1)++b.extract 0 j++(o.push x).reverse),i-1,j,o.push x,mg,ac,bc))
  else if decide (ac<7) && decide (bc<7) then pure (.done (none,i-1,j,o.push x,mg,ac,bc)) else pure (.yield (none,i-1,j,o.push x,mg,ac,bc))
noncomputable def hiB (mg ac bc j:Nat) (i:Nat) (o:Array Keyed):StateT SortSt Sem (ForInStep Gh):=
 elem' b (j-1) >>= λ x=>if j-1 == 1 then pure (.done (some (b.extract 0 (j-1)++a.extract 0 i++(o.push x).reverse),i,j-1,o.push x,mg,ac,bc))
  else elem' a (i-1) >>= λ y=>dj true y b 0 (j-1) (j-1-1) >>= fun
  | some k=>if j-1-k>0 then if k == 1 then pure (.done (some (b.extract 0 k++a.extract 0 i++(o.push x++(b.extract k (j-1)).reverse).reverse),i,k,o.push x++(b.extract k (j-1)).reverse,mg,ac,j-1-k))
    else if k == 0 then pure (.done (some (a.extract 0 i++b.extract 0 k++(o.push x++(b.extract k (j-1)).reverse).reverse),i,k,o.push x++(b.extract k (j-1)).reverse,mg,ac,j-1-k))
    else hiC a b mg ac (j-1-k) i (o.push x++(b.extract k (j-1)).reverse) k else hiC a b mg ac (j-1-k) i (o.push x) (j-1)
  | _=>pure (.done (some (a.extract 0 i++b.extract 0 (j-1)++(o.push x).reverse),i,j-1,o.push x,mg,ac,bc))
noncomputable def hiA (ac bc i j:Nat) (o:Array Keyed) (mg:Nat):StateT SortSt Sem (ForInStep Gh):=
 setG mg >>= λ _=>elem' b (j-1) >>= λ x=>dj false x a 0 i (i-1) >>= fun
 | some k=>if i-k>0 then if k == 0 then pure (.done (some (a.extract 0 k++b.extract 0 j++(o++(a.extract k i).reverse).reverse),k,j,o++(a.extract k i).reverse,mg,i-k,bc))
   else hiB a b mg (i-k) bc j k (o++(a.extract k i).reverse) else hiB a b mg (i-k) bc j i o
 | _=>pure (.done (some (a.extract 0 i++b.extract 0 j++o.reverse),i,j,o,mg,ac,bc))
end
noncomputable def HI (rk:Keyed->Int) (a b:Array Keyed) (st:SortSt) (z y:Nat) (c:Gh) (st':SortSt):Prop:=dC st st'/\∃ i j out mg ac bc,c=(none,i,j,out,mg,ac,bc)/\Hm rk a b out i j/\1<=i/\i<=a.size/\2<=j/\j<=b.size/\y+i+j<=z
noncomputable def HQ (rk:Keyed->Int) (a b:Array Keyed) (st:SortSt) (z:Nat) (c:Gh) (st':SortSt):Prop:=dC st st'/\((∃ r rest,c=(some r,rest)/\r.toList.Perm (a.toList++b.toList)/\Asc rk r.toList)\/∃ i j out mg ac bc,c=(none,i,j,out,mg,ac,bc)/\Hm rk a b out i j/\1<=i/\i<=a.size/\2<=j/\j<=b.size/\i+j<=z)
set_option maxHeartbeats 4000000 in
theorem lF {st:SortSt}{a b:Array Keyed}{Q:Array Keyed->SortSt->Prop}(C:Cmp prog w A s rk κ a₀.toList) (hk:kindOf st=κ) (ma:∀ x∈a.toList,x∈a₀.toList) (mb:∀ x∈b.toList,x∈a₀.toList)
  (D:∀ i j,i<a.size->j<b.size->R rk a i≠R rk b j) (sa:Asc rk a.toList) (sb:Asc rk b.toList) (h1:1<=a.size) (h2:1<=b.size) (h0:∀ i,i<a.size->R rk b 0<R rk a i) (hl:∀ j,j<b.size->R rk b j<R rk a (a.size-1))
  (h:∀ (out:Array Keyed) J,dC st J->out.toList.Perm (a.toList++b.toList)->Asc rk out.toList->Q out J):wpS (model prog w) A E s (ml a b) Q st:=by
 have mA:∀ i (h:i<a.size),a[i]∈a₀.toList:=λ i h=>ma _ (by simp)
 have mB:∀ i (h:i<b.size),b[i]∈a₀.toList:=λ i h=>mb _ (by simp)
 have a9:Asc (ng rk) a.toList.reverse:=hV.mpr (by rw[Fp];exact sa)
 have a6:Asc (ng rk) b.toList.reverse:=hV.mpr (by rw[Fp];exact sb)
 have a8:∀ {out:Array Keyed} {na nb:Nat} (h:na+1<=a.size),nb<=b.size->Hm rk a b out (na+1) nb->(∀ j,j<nb->R rk b j<R rk a na)->Hm rk a b (out.push a[na]) na nb:=λ{out na nb} h L m q=>by
  have:=m.a (k:=1) a9 λ y hy z hz=>by
   rw[hZ h,BD] at hy
   obtain⟨k,k1,k2,rfl⟩:=cu L hz
   have:=q k k1
   rw[bN (show na<a.size by lia),bN k2] at this
   rw[hy];show-_ < - _;lia
  rw[hZ h,show a.size-(na+1)+1=a.size-na by lia] at this
  unfold Hm;rw[DH];exact this
 have ai:∀ {out:Array Keyed} {na nb:Nat} (h:nb+1<=b.size),na<=a.size->Hm rk a b out na (nb+1)->(∀ j,j<na->R rk a j<R rk b nb)->Hm rk a b (out.push b[nb]) na nb:=λ{out na nb} h L m q=>by
  have:=m.b (k:=1) a6 λ y hy z hz=>by
   rw[hZ h,BD] at hy
   obtain⟨k,k1,k2,rfl⟩:=cu L hz
   have:=q k k1
   rw[bN (show nb<b.size by lia),bN k2] at this
   rw[hy];show-_ < - _;lia
  rw[hZ h,show b.size-(nb+1)+1=b.size-nb by lia] at this
  unfold Hm;rw[DH];exact this
 have ab:∀ {out:Array Keyed} {na nb at_:Nat},na<=a.size->nb<=b.size->at_<=na->Hm rk a b out na nb->(∀ i,at_<=i->i<na->∀ j,j<nb->R rk b j<R rk a i)->Hm rk a b (out++(a.extract at_ na).reverse) at_ nb:=λ{out na nb at_} h L a3 m q=>by
  have:=m.a (k:=na-at_) a9 λ y hy z hz=>by
   obtain⟨n,n1,n2,n3,rfl⟩:=fI h a3 hy
   obtain⟨j,j1,j2,rfl⟩:=cu L hz
   have:=q n n1 n2 j j1
   rw[bN n3,bN j2] at this
   show-_ < - _;lia
  rw[fC h a3,show a.size-na+(na-at_)=a.size-at_ by lia] at this
  unfold Hm;rw[CF,Ez];exact this
 have ad:∀ {out:Array Keyed} {na nb at_:Nat},na<=a.size->nb<=b.size->at_<=nb->Hm rk a b out na nb->(∀ i,at_<=i->i<nb->∀ j,j<na->R rk a j<R rk b i)->Hm rk a b (out++(b.extract at_ nb).reverse) na at_:=λ{out na nb at_} h L a3 m q=>by
  have:=m.b (k:=nb-at_) a6 λ y hy z hz=>by
   obtain⟨n,n1,n2,n3,rfl⟩:=fI L a3 hy
   obtain⟨j,j1,j2,rfl⟩:=cu h hz
   have:=q n n1 n2 j j1
   rw[bN n3,bN j2] at this
   show-_ < - _;lia
  rw[fC L a3,show b.size-nb+(nb-at_)=b.size-at_ by lia] at this
  unfold Hm;rw[CF,Ez];exact this
 have a2:∀ {c:Array Keyed} {n:Nat},n<=c.size->(c.extract 0 n).toList=(c.toList.reverse.drop (c.size-n)).reverse:=λ{c n} h=>by
  rw[iE h,Fp,C7];simp
 have Z:∀ {out:Array Keyed} {na nb:Nat},na=0->nb<=b.size->Hm rk a b out na nb->(a.extract 0 na++b.extract 0 nb++out.reverse).toList.Perm (a.toList++b.toList)/\Asc rk (a.extract 0 na++b.extract 0 nb++out.reverse).toList:=λ{out na nb} e L m=>by
  subst e
  obtain⟨p,q⟩:=m.swap.zF a6 (by simp)
  have e:(a.extract 0 0++b.extract 0 nb++out.reverse).toList=(out.toList++b.toList.reverse.drop (b.size-nb)).reverse:=by
   rw[CF,CF,Ez,a2 L,Fq];simp
  rw[e]
  refine⟨((DZ _).trans p).trans ?_,hV.mp q⟩
  exact((DZ _).append (DZ _)).trans DB
 have a1:∀ {out:Array Keyed} {na nb:Nat},nb=1->na<=a.size->Hm rk a b out na nb->(b.extract 0 nb++a.extract 0 na++out.reverse).toList.Perm (a.toList++b.toList)/\Asc rk (b.extract 0 nb++a.extract 0 na++out.reverse).toList:=λ{out na nb} e L m=>by
  subst e
  obtain⟨p,q⟩:=m.swap.wZ a6 a9 λ y hy x hx=>by
   obtain⟨i,i1,i2,rfl⟩:=cu L hy
   obtain⟨j,j1,j2,rfl⟩:=cu h2 hx
   have e0:j=0:=by lia
   subst e0
   have:=h0 i i2
   rw[bN i2,bN j2] at this
   show-_ < - _;lia
  have e:(b.extract 0 1++a.extract 0 na++out.reverse).toList=(out.toList++a.toList.reverse.drop (a.size-na)++b.toList.reverse.drop (b.size-1)).reverse:=by
   rw[CF,CF,Ez,a2 L,a2 h2,Fq,Fq,CI]
  rw[e]
  refine⟨((DZ _).trans p).trans ?_,hV.mp q⟩
  exact((DZ _).append (DZ _)).trans DB
 have a4:∀ {out:Array Keyed} {na nb:Nat} (h:na-1<a.size),1<=na->nb<=b.size->Hm rk a b out na nb->(∀ j,j<nb->R rk b j<R rk a (na-1))->Hm rk a b (out.push a[na-1]) (na-1) nb:=λ{out na nb} h p L m q=>by
  obtain⟨z,rfl⟩:∃ z,na=z+1:=⟨na-1,by lia⟩
  exact a8 (na:=z) (by lia) L m q
 have a5:∀ {out:Array Keyed} {na nb:Nat} (h:nb-1<b.size),1<=nb->na<=a.size->Hm rk a b out na nb->(∀ j,j<na->R rk a j<R rk b (nb-1))->Hm rk a b (out.push b[nb-1]) na (nb-1):=λ{out na nb} h p L m q=>by
  obtain⟨z,rfl⟩:∃ z,nb=z+1:=⟨nb-1,by lia⟩
  exact ai (nb:=z) (by lia) L m q
 change wpS (model prog w) A E s (bind _ _) Q st
 refine BO (EZ (Dk ⟨rfl,?_⟩))
 dsimp only
 refine BO (br (show a.size-1<a.size by lia) ?_)
 have m0:Hm rk a b #[a[a.size-1]] (a.size-1) b.size:=by
  have:=a8 (out:=#[]) (na:=a.size-1) (nb:=b.size) (by lia) (Nat.le_refl _) (by
   unfold Hm;rw[show a.size-(a.size-1+1)=0 by lia,CV]
   exact⟨.nil,.nil,(λ x hx=>by cases hx),(λ x hx=>by cases hx)⟩) λ j hj=>hl j hj
  exact this
 refine bx (λ c1=>?_) λ c1=>?_
 ·obtain⟨p,q⟩:=Z (na:=a.size-1) (by simpa using c1) (Nat.le_refl _) m0
  exact BZ (h _ _ .refl p q)
 have ak:1<a.size:=by
  have:¬ a.size-1=0:=by simpa using c1
  lia
 refine bx (λ c2=>?_) λ c2=>?_
 ·obtain⟨p,q⟩:=a1 (nb:=b.size) (by simpa using c2) (by lia) m0
  exact BZ (h _ _ .refl p q)
 have al:1<b.size:=by
  have:¬ b.size=1:=by simpa using c2
  lia
 refine BO (D9 ?_)
 refine BO (Dn (CH (I:=λ x c J=>dC st J/\∃ na nb out mg,c=(none,na,nb,out,mg)/\Hm rk a b out na nb/\1<=na/\na<=a.size/\2<=nb/\nb<=b.size/\x+na+nb<=a.size+b.size)
  (Q:=λ c J=>dC st J/\∃ r rest,c=(some r,rest)/\r.toList.Perm (a.toList++b.toList)/\Asc rk r.toList) ?step ?fin ?init) ?post)
 case init=>exact⟨.refl,a.size-1,b.size,_,_,rfl,m0,by lia,by lia,by lia,by lia,by lia⟩
 case fin=>
  rintro c J ⟨Y,na,nb,out,mg,rfl,m,e1,e2,e3,e4,e5⟩
  lia
 case post=>
  rintro c J ⟨Y,r,rest,rfl,p,q⟩
  exact BZ (h r J Y p q)
 case step=>
  rintro x c J _ hx ⟨Y,na,nb,out,mg,rfl,m,e1,e2,e3,e4,e5⟩
  refine BO (Dn (CH (I:=λ y c M=>M=J/\∃ F G out ac V,c=(none,F,G,out,ac,V)/\Hm rk a b out F G/\1<=F/\F<=a.size/\2<=G/\G<=b.size/\y+F+G<=na+nb)
   (Q:=λ c M=>M=J/\((∃ r rest,c=(some r,rest)/\r.toList.Perm (a.toList++b.toList)/\Asc rk r.toList)\/∃ F G out ac V,c=(none,F,G,out,ac,V)/\Hm rk a b out F G/\1<=F/\F<=a.size/\2<=G/\G<=b.size/\F+G<na+nb)) ?istep ?ifin ?iinit) ?ipost)
  case iinit=>exact⟨rfl,na,nb,out,_,_,rfl,m,e1,e2,e3,e4,by lia⟩
  case ifin=>
   rintro c M ⟨rfl,F,G,out,ac,V,rfl,m,f1,f2,f3,f4,f5⟩
   lia
  case istep=>
   rintro y c M _ hy ⟨rfl,F,G,out,ac,V,rfl,m,f1,f2,f3,f4,f5⟩
   have O:F-1<a.size:=by lia
   have U:G-1<b.size:=by lia
   refine BO (br (xs:=b) (i:=G-1) U (BO (br (xs:=a) (i:=F-1) O ?_)))
   refine BO (iU C (Y.2.1.trans hk) (mB _ U) (mA _ O) ?_)
   have ra:R rk a (F-1)=rk a[F-1]:=bN O
   have rb:R rk b (G-1)=rk b[G-1]:=bN U
   by_cases bw:rk b[G-1]<rk a[F-1]
   ·simp only[bw,Ef,DK]
    refine BO (br (xs:=a) (i:=F-1) O ?_)
    have m':=a4 O f1 f4 m λ j j1=>by have:=sb.ge (show j<=G-1 by lia) U;lia
    refine bx (λ g=>BZ ⟨rfl,.inl ⟨_,_,rfl,Z (na:=F-1) (by simpa using g) f4 m'⟩⟩) λ g=>?_
    have g':¬ F-1=0:=by simpa using g
    refine bx (λ _=>BZ ⟨rfl,.inr ⟨F-1,G,_,_,_,rfl,m',by lia,by lia,f3,f4,by lia⟩⟩) λ _=>BZ ⟨rfl,F-1,G,_,_,_,rfl,m',by lia,by lia,f3,f4,by lia⟩
   ·simp only[bw,ED,B0,CJ]
    refine BO (br (xs:=b) (i:=G-1) U ?_)
    have nd:=D (F-1) (G-1) O U
    have m':=a5 U (by lia) f2 m λ j j1=>by have:=sa.ge (show j<=F-1 by lia) O;lia
    refine bx (λ g=>BZ ⟨rfl,.inl ⟨_,_,rfl,a1 (nb:=G-1) (by simpa using g) f2 m'⟩⟩) λ g=>?_
    have g':¬ G-1=1:=by simpa using g
    refine bx (λ _=>BZ ⟨rfl,.inr ⟨F,G-1,_,_,_,rfl,m',f1,f2,by lia,by lia,by lia⟩⟩) λ _=>BZ ⟨rfl,F,G-1,_,_,_,rfl,m',f1,f2,by lia,by lia,by lia⟩
  case ipost=>
   rintro c M ⟨rfl,⟨r,rest,rfl,p,q⟩|⟨F,G,out,ac,V,rfl,m,f1,f2,f3,f4,f5⟩⟩
   ·exact BZ ⟨Y,r,_,rfl,p,q⟩
   refine BO (EZ (Dk ⟨rfl,?_⟩))
   refine BO (Dn (CH (I:=HI rk a b st (F+G))
    (Q:=HQ rk a b st (F+G)) ?gstep ?gfin ?ginit) ?gpost)
   case ginit=>exact⟨Y,F,G,out,_,_,_,rfl,m,f1,f2,f3,f4,by lia⟩
   case gfin=>
    rintro c a7 ⟨W,i,j,out,mg,ac,V,rfl,m,g1,g2,g3,g4,g5⟩
    lia
   case gpost=>
    rintro c a7 ⟨W,⟨r,rest,rfl,p,q⟩|⟨i,j,out,mg,ac,V,rfl,m,g1,g2,g3,g4,g5⟩⟩
    ·exact BZ ⟨W,r,_,rfl,p,q⟩
    ·refine BO (DJ (BZ ⟨W.trans ⟨rfl,rfl,rfl,rfl⟩,i,j,out,_,rfl,m,g1,g2,g3,g4,by lia⟩))
   case gstep=>
    rintro y c a7 _ hy ⟨W,i,j,out,mg,ac,V,rfl,m,g1,g2,g3,g4,g5⟩
    have U:j-1<b.size:=by lia
    suffices H:∀ PP:ForInStep Gh->SortSt->Prop,(∀ c J,HQ rk a b st (F+G) c J->PP (.done c) J)->(∀ c J,HI rk a b st (F+G) (y+1) c J->PP (.yield c) J)->wpS (model prog w) A E s (if mg>1 then hiA a b ac V i j out (mg-1) else hiA a b ac V i j out mg) PP a7 from H _ (λ _ _ h=>h) λ _ _ h=>h
    intro PP hd aj
    have G3:∀ {mg ac V i o j} {J:SortSt},dC st J->Hm rk a b o i j->1<=i->i<=a.size->2<=j->j<=b.size->y+i+j<=F+G->(∀ n,n<j->R rk b n<R rk a (i-1))->wpS (model prog w) A E s (hiC a b mg ac V i o j) PP J:=λ Y m i1 i2 j1 j2 hz af=>by
     have O:=BW (Nat.sub_one_lt_of_le i1 (Nat.le_refl _)) i2
     have M4:=a4 O i1 j2 m af
     refine BO (br O (bx (λ e=>BZ (hd _ _ ⟨Y,.inl ⟨_,_,rfl,Z (by simpa using e) j2 M4⟩⟩)) λ e=>?_))
     have e':=Nat.pos_of_ne_zero (dA e)
     exact bx (λ _=>BZ (hd _ _ ⟨Y,.inr ⟨_,_,_,_,_,_,rfl,M4,e',DF O,j1,j2,by lia⟩⟩)) λ _=>BZ (aj _ _ ⟨Y,_,_,_,_,_,_,rfl,M4,e',DF O,j1,j2,by lia⟩)
    have G2:∀ {mg ac V i o} {J:SortSt},dC st J->Hm rk a b o i j->1<=i->i<=a.size->y+i+j<=F+G->(∀ n,n<i->R rk a n<R rk b (j-1))->wpS (model prog w) A E s (hiB a b mg ac V j i o) PP J:=λ{mg ac V i o J} Y m i1 i2 hz af=>by
     have O:=BW (Nat.sub_one_lt_of_le i1 (Nat.le_refl _)) i2
     have M2:=a5 U (Nat.le_of_succ_le g3) i2 m af
     refine BO (br U (bx (λ c3=>BZ (hd _ _ ⟨Y,.inl ⟨_,_,rfl,a1 (by simpa using c3) i2 M2⟩⟩)) λ c3=>?_))
     have ae:2<=j-1:=by have:=dA c3;lia
     refine BO (br O (BO (eS C (Y.2.1.trans hk) (mA _ O) (λ n L _=>mB _ L) (by lia) (λ p q a b c=>fu sb p q (Cf _) b (by lia)) (by lia) λ k k1 k2 k3=>?_)))
     rw[<- bN (rk:=rk) O] at k2 k3
     simp only[C4] at k2 k3
     have kp:1<=k:=E4 λ z=>Int.not_le.mpr (h0 _ O) (k3 0 z (EU ae))
     have kb:=B6 k1 (DF U)
     have ah:=ad (at_:=k) i2 (DF U) k1 M2 λ n n1 n2 q q1=>Fx (sa.ge (Nat.le_sub_one_of_lt q1) O) (Ey.mpr ⟨k3 n n1 n2,D _ n O (E9 n2 U)⟩)
     refine bx (λ d0=>bx (λ d1=>BZ (hd _ _ ⟨Y,.inl ⟨_,_,rfl,a1 (by simpa using d1) i2 ah⟩⟩)) λ d1=>bx (λ d2=>absurd (by simpa using d2) (C5 kp)) λ d2=>?_) λ d0=>?_
     ·exact G3 Y ah i1 i2 (Ft kp λ z=>dA d1 z.symm) kb (by lia) k2
     ·have e:k=j-1:=by
       have am:¬ (j-1-k>0):=d0
       lia
      subst e
      exact G3 Y M2 i1 i2 ae (DF U) (by lia) k2
    have G1:∀ mg,wpS (model prog w) A E s (hiA a b ac V i j out mg) PP a7:=λ mg=>by
     refine BO (DJ (BO (br U (BO (eQ C (W.2.1.trans hk) (mB _ U) (λ n L _=>mA _ L) (by lia) (λ p q a b c=>fu sa p q (Cf _) b (by lia)) (by lia) λ k k1 k2 k3=>?_)))))
     rw[<- bN (rk:=rk) U] at k2 k3
     simp only[C4] at k2 k3
     have aa:∀ n,n<k->R rk a n<R rk b (j-1):=λ n n1=>Ey.mpr ⟨k2 n n1,D n _ (by lia) U⟩
     have ag:=ab (at_:=k) g2 g4 k1 m λ n n1 n2 q q1=>Fx (sb.ge (Nat.le_sub_one_of_lt q1) U) (k3 n n1 n2)
     refine bx (λ k0=>bx (λ c1=>BZ (hd _ _ ⟨W.trans ⟨rfl,rfl,rfl,rfl⟩,.inl ⟨_,_,rfl,Z (by simpa using c1) g4 ag⟩⟩)) λ c1=>?_) λ k0=>?_
     ·exact G2 (W.trans ⟨rfl,rfl,rfl,rfl⟩) ag (Nat.pos_of_ne_zero (dA c1)) (B6 k1 g2) (by lia) aa
     ·have e:k=i:=by
       have an:¬ (i-k>0):=k0
       lia
      subst e
      exact G2 (W.trans ⟨rfl,rfl,rfl,rfl⟩) m g1 g2 (by lia) aa
    exact bx (λ _=>G1 _) λ _=>G1 _
end
theorem vn (o):∀ (l:List Keyed) (m:Nat) (xs:Array Keyed),o+m+l.length<=xs.size ->
  ((l.zipIdx m).foldl (λ a (x:Keyed×Nat)=>a.setIfInBounds (o+x.2) x.1) xs).toList=xs.toList.take (o+m)++l++xs.toList.drop (o+m+l.length)
 | [],m,xs,h=>by simp
 | p::l,m,xs,h=>by
  simp only[Ci] at h
  rw[List.zipIdx_cons,List.foldl_cons,vn o l (m+1) _ (by simp;lia)]
  dsimp only
  rw[Array.toList_setIfInBounds]
  have j:(xs.toList.set (o+m) p).take (o+(m+1))=xs.toList.take (o+m)++[p]:=by
   rw[show o+(m+1)=o+m+1 by lia,List.take_succ,List.take_set_of_le (Nat.le_refl _)]
   congr 1
   rw[B8 (by simp;lia)]
   rfl
  have q:(xs.toList.set (o+m) p).drop (o+(m+1)+l.length)=xs.toList.drop (o+m+(p::l).length):=by
   rw[List.drop_set_of_lt (by lia),Ci]
   congr 1;lia
  rw[j,q]
  simp
section
variable {rk:Keyed->Int}
theorem Seg.asc {xs:Array Keyed}{lo hi:Nat}(h:Seg rk xs lo hi) (F:hi<=xs.size):Asc rk (xs.extract lo hi).toList:=by
 refine nT λ i j _ J q=>?_
 have z:j<hi-lo:=by simp at q;lia
 have G:(xs.extract lo hi).size=hi-lo:=by simp;lia
 rw[bN (by lia),bN (by lia),Fi,Fi]
 have:=h (lo+i) (lo+j) (by lia) (by lia) (by lia)
 rwa [bN (by lia),bN (by lia)] at this
theorem uI {xs:Array Keyed}{lo hi i:Nat}(j:hi<=xs.size) (h:lo+i<hi):R rk (xs.extract lo hi) i=R rk xs (lo+i):=by
 have q:(xs.extract lo hi).size=hi-lo:=by simp;lia
 rw[bN (by lia),bN (by lia),Fi]
theorem ie {xs:Array Keyed}{lo hi:Nat}{x:Keyed}(z:hi<=xs.size) (h:x∈(xs.extract lo hi).toList):∃ i,lo<=i/\i<hi/\∃ hi:i<xs.size,x=xs[i]:=by
 have q:(xs.extract lo hi).size=hi-lo:=by simp;lia
 obtain⟨n,j,e⟩:=C6.mp h
 rw[BP,q] at j
 refine⟨lo+n,by lia,by lia,by lia,?_⟩
 rw[<- e];simp
theorem uP {L:List Keyed}{i j:Nat}(h:i<=j):L.take i++(L.take j).drop i=L.take j:=by
 have:=Dh i (L.take j)
 rwa [List.take_take,Nat.min_eq_left h] at this
theorem wW {xs:Array Keyed}{i j k:Nat}(h1:i<=j) (h2:j<=k) (q:k<=xs.size):xs.toList=xs.toList.take i++((xs.extract i j).toList++(xs.extract j k).toList)++xs.toList.drop k:=by
 simp only[C7,D2]
 rw[<- CI,uP h1,uP h2,Dh]
end
section
variable {prog:Program}{w:World}{A:Around}{E:Value->Shared->Prop}{s:Shared}{rk:Keyed->Int}{κ:SortKind}{a₀:Array Keyed}
noncomputable def Two (rk:Keyed->Int) (κ:SortKind) (a₀:Array Keyed) (st:SortSt):Prop:=
 (∃ pw,SB a₀ κ #[(0,a₀.size,pw)] st/\Seg rk (arrOf st) 0 a₀.size)\/∃ n1 n2 pw,SB a₀ κ #[(0,n1,pw),(n1,n2,0)] st/\1<=n1/\1<=n2/\n1+n2=a₀.size/\Seg rk (arrOf st) 0 n1/\Seg rk (arrOf st) n1 (n1+n2)
theorem tI {σ:Type}{M:Model}{st j:σ}{Q:PUnit->σ->Prop}(h:Q ⟨⟩ j):wpS M A E s (set j:StateT σ Sem PUnit) Q st:=by
 exact DJ (f:=λ _=>j) h
theorem lP (i:Nat):mergeAt' i=(do
 let s <- get
 let (some (sa,na,power),some (sb,nb,_)):=((pendingOf s)[i]?,(pendingOf s)[i+1]?)|unsupported "internal:list.sort.pending"
 set (setPending s (((pendingOf s).setIfInBounds i (sa,na+nb,power)).eraseIdxIfInBounds (i+1)))
 let some k <- dj false (<- elem' (arrOf s) sb) (arrOf s) sa na 0|return false
 let (sa,na):=(sa+k,na-k)
 if na == 0 then return true
 let some nb <- dj true (<- elem' (arrOf s) (sa+na-1)) (arrOf s) sb nb (nb-1)|return false
 if nb == 0 then return true
 let x:=(arrOf s).extract sa sb
 let y:=(arrOf s).extract sb (sb+nb)
 let merged <- if na<=nb then kW x y else ml x y
 modify λ s=>setArr s (merged.toList.zipIdx.foldl (λ a (p,j)=>a.setIfInBounds (sa+j) p) (arrOf s))
 return (failedOf (<- get)).isNone):=rfl
theorem wQ (a b x:α):(#[a,b].setIfInBounds 0 x).eraseIdxIfInBounds (0+1) = #[x]:=by
 simp[Array.eraseIdxIfInBounds]
set_option maxHeartbeats 4000000 in
theorem kP {st:SortSt}{n1 n2 pw pw2:Nat}{Q:Bool->SortSt->Prop}(C:Cmp prog w A s rk κ a₀.toList) (D:(a₀.toList.map rk).Nodup) (hB:SB a₀ κ #[(0,n1,pw),(n1,n2,pw2)] st) (h1:1<=n1) (h2:1<=n2) (hn:n1+n2=a₀.size)
  (s1:Seg rk (arrOf st) 0 n1) (s2:Seg rk (arrOf st) n1 (n1+n2))
  (h:∀ st',SB a₀ κ #[(0,n1+n2,pw)] st'->Seg rk (arrOf st') 0 a₀.size->Q true st'):wpS (model prog w) A E s (mergeAt' 0) Q st:=by
 have hz:=hB.size
 rw[lP]
 refine BO (D9 ?_)
 rw[hB.pend]
 show wpS (model prog w) A E s (set (setPending st ((#[(0,n1,pw),(n1,n2,pw2)].setIfInBounds 0 (0,n1+n2,pw)).eraseIdxIfInBounds (0+1))) >>= _) Q st
 rw[wQ]
 refine BO (tI ?_)
 have B1:SB a₀ κ #[(0,n1+n2,pw)] (setPending st #[(0,n1+n2,pw)]):=⟨hB.perm,hB.kind,hB.failed,rfl⟩
 have mem:∀ i (h:i<(arrOf st).size),(arrOf st)[i]∈a₀.toList:=λ i h=>hB.mem h
 have neq:∀ i j,i<j->j<(arrOf st).size->R rk (arrOf st) i≠R rk (arrOf st) j:=λ i j a b e=>by
  have:=gu D hB.perm (show i<_ by lia) b e
  lia
 have k1':n1<(arrOf st).size:=by lia
 have rk1:R rk (arrOf st) n1=rk (arrOf st)[n1]:=bN k1'
 refine BO (br (xs:=arrOf st) (i:=n1) k1' ?_)
 refine BO (eQ (arr:=arrOf st) (base:=0) (n:=n1) (hint:=0) (key:=(arrOf st)[n1]) C hB.kind (mem _ k1') (λ n hn _=>mem _ hn) (by lia) (λ p q a b c=>s1 p q (by lia) b (by lia)) (by lia) λ k l1 l2 l3=>?_)
 have below:∀ i,i<k->R rk (arrOf st) i<R rk (arrOf st) n1:=λ i hi=>by
  have:=l2 i hi
  rw[C4] at this
  have:=neq i n1 (by lia) k1'
  lia
 refine bx (λ c1=>?_) λ c1=>?_
 ·have e:n1-k=0:=by simpa using c1
  refine BZ (h _ B1 λ i j a b c=>?_)
  show R rk (arrOf st) i<R rk (arrOf st) j
  by_cases hj:j<n1
  ·exact s1 i j a b hj
  ·by_cases hi:i<n1
   ·have:=below i (by lia)
    by_cases ej:j=n1
    ·rw[ej];exact this
    ·have:=s2 n1 j (Nat.le_refl _) (by lia) (by lia)
     lia
   ·exact s2 i j (by lia) b (by lia)
 have c1':¬ n1-k=0:=by simpa using c1
 have k2':0+k+(n1-k)-1<(arrOf st).size:=by lia
 have ek:0+k+(n1-k)-1=n1-1:=by lia
 have rk2:R rk (arrOf st) (n1-1)=rk (arrOf st)[0+k+(n1-k)-1]:=by rw[<- ek];exact bN k2'
 refine BO (br (xs:=arrOf st) (i:=0+k+(n1-k)-1) k2' ?_)
 refine BO (eS (key:=(arrOf st)[0+k+(n1-k)-1]) (arr:=arrOf st) (base:=n1) (n:=n2) (hint:=n2-1) C hB.kind (mem _ k2') (λ n hn _=>mem _ hn) (by lia) s2 (by lia) λ nb m1 m2 m3=>?_)
 have low:R rk (arrOf st) n1<R rk (arrOf st) (n1-1):=by
  have:=l3 (n1-1) (by lia) (by lia)
  rw[C4] at this
  lia
 have nb1:1<=nb:=by
  refine E4 λ z=>?_
  have:=m3 0 z (by lia)
  rw[EG] at this
  lia
 have top:∀ j,n1+nb<=j->j<n1+n2->R rk (arrOf st) (n1-1)<R rk (arrOf st) j:=λ j a b=>by
  have:=m3 (j-n1) (by lia) (by lia)
  rw[show n1+(j-n1)=j by lia] at this
  have:=neq (n1-1) j (by lia) (by lia)
  lia
 refine bx (λ c2=>absurd (show nb=0 by simpa using c2) (by lia)) λ c2=>?_
 have e0:0+k=k:=C4 k
 have hX:((arrOf st).extract (0+k) n1).size=n1-k:=by simp;lia
 have hY:((arrOf st).extract n1 (n1+nb)).size=nb:=by simp;lia
 have rX:∀ i,i<n1-k->R rk ((arrOf st).extract (0+k) n1) i=R rk (arrOf st) (k+i):=λ i hi=>by rw[uI (by lia) (by lia),e0]
 have rY:∀ j,j<nb->R rk ((arrOf st).extract n1 (n1+nb)) j=R rk (arrOf st) (n1+j):=λ j hj=>uI (by lia) (by lia)
 have memX:∀ x∈((arrOf st).extract (0+k) n1).toList,x∈a₀.toList:=λ x hx=>by
  obtain⟨i,_,_,hi,rfl⟩:=ie (by lia) hx;exact mem i hi
 have memY:∀ x∈((arrOf st).extract n1 (n1+nb)).toList,x∈a₀.toList:=λ x hx=>by
  obtain⟨i,_,_,hi,rfl⟩:=ie (by lia) hx;exact mem i hi
 have DD:∀ i j,i<((arrOf st).extract (0+k) n1).size->j<((arrOf st).extract n1 (n1+nb)).size->R rk ((arrOf st).extract (0+k) n1) i≠R rk ((arrOf st).extract n1 (n1+nb)) j:=λ i j hi hj=>by
  rw[hX] at hi;rw[hY] at hj
  rw[rX i hi,rY j hj]
  exact neq _ _ (by lia) (by lia)
 have aX:Asc rk ((arrOf st).extract (0+k) n1).toList:=Seg.asc (λ i j a b c=>s1 i j (by lia) b c) (by lia)
 have aY:Asc rk ((arrOf st).extract n1 (n1+nb)).toList:=Seg.asc (λ i j a b c=>s2 i j a b (by lia)) (by lia)
 have Z0:∀ i,i<((arrOf st).extract (0+k) n1).size->R rk ((arrOf st).extract n1 (n1+nb)) 0<R rk ((arrOf st).extract (0+k) n1) i:=λ i hi=>by
  rw[hX] at hi
  rw[rX i hi,rY 0 (by lia)]
  have:=l3 (k+i) (by lia) (by lia)
  rw[C4] at this
  rw[EG];lia
 have ZL:∀ j,j<((arrOf st).extract n1 (n1+nb)).size->R rk ((arrOf st).extract n1 (n1+nb)) j<R rk ((arrOf st).extract (0+k) n1) (((arrOf st).extract (0+k) n1).size-1):=λ j hj=>by
  rw[hY] at hj
  rw[rY j hj,hX,rX _ (by lia),show k+(n1-k-1)=n1-1 by lia]
  have:=m2 j hj
  lia
 have fin:∀ (out:Array Keyed) st',dC (setPending st #[(0,n1+n2,pw)]) st'->out.toList.Perm (((arrOf st).extract (0+k) n1).toList++((arrOf st).extract n1 (n1+nb)).toList)->Asc rk out.toList ->
   wpS (model prog w) A E s (do
    modify λ s=>setArr s (out.toList.zipIdx.foldl (λ a (p,j)=>a.setIfInBounds (0+k+j) p) (arrOf s))
    return (failedOf (<- get)).isNone) Q st':=λ out st' lk pm as=>by
  refine BO (DJ (BO (D9 (BZ ?_))))
  obtain⟨q1,q2,q3,q4⟩:=lk
  have ln:out.toList.length=n1-k+nb:=by rw[pm.length_eq,BL,BP,BP,hX,hY]
  have ar:(out.toList.zipIdx.foldl (λ a (x:Keyed×Nat)=>a.setIfInBounds (0+k+x.2) x.1) (arrOf st)).toList=(arrOf st).toList.take k++out.toList++(arrOf st).toList.drop (n1+nb):=by
   have:=vn (0+k) out.toList 0 (arrOf st) (by rw[ln];lia)
   rw[this,EG,e0,ln,show k+(n1-k+nb)=n1+nb by lia]
  have sp:=wW (xs:=arrOf st) (i:=0+k) (j:=n1) (k:=n1+nb) (by lia) (by lia) (by lia)
  rw[e0] at sp
  have ff:failedOf st'=none:=q3.trans hB.failed
  show Q (failedOf st').isNone _
  rw[ff]
  have a0:arrOf st'=arrOf st:=q1
  refine h _ ⟨?_,q2.trans hB.kind,ff,q4⟩ ?_
  ·show (out.toList.zipIdx.foldl (λ a (x:Keyed×Nat)=>a.setIfInBounds (0+k+x.2) x.1) (arrOf st')).Perm a₀
   rw[a0]
   refine Array.Perm.trans ?_ hB.perm
   rw[D3,ar]
   conv=>rhs;rw[sp]
   rw[e0] at pm
   exact(Et _ pm).append_right _
  ·show Seg rk (out.toList.zipIdx.foldl (λ a (x:Keyed×Nat)=>a.setIfInBounds (0+k+x.2) x.1) (arrOf st')) 0 a₀.size
   rw[a0]
   have zz:(out.toList.zipIdx.foldl (λ a (x:Keyed×Nat)=>a.setIfInBounds (0+k+x.2) x.1) (arrOf st)).size=a₀.size:=by
    have:=congrArg List.length ar
    rw[BP] at this
    rw[this]
    simp[ln]
    lia
   rw[<- zz]
   refine fu ?_
   rw[ar]
   have memT:∀ x∈(arrOf st).toList.take k,∃ i,i<k/\rk x=R rk (arrOf st) i:=λ x hx=>by
    obtain⟨i,hi,e⟩:=C6.mp hx
    simp at hi
    refine⟨i,by lia,?_⟩
    rw[bN (by lia),<- e];simp
   have memD:∀ x∈(arrOf st).toList.drop (n1+nb),∃ i,n1+nb<=i/\i<n1+n2/\rk x=R rk (arrOf st) i:=λ x hx=>by
    obtain⟨i,i1,i2,rfl⟩:=cE hx
    exact⟨i,i1,by lia,(bN i2).symm⟩
   have memO:∀ x∈out.toList,(∃ i,k<=i/\i<n1/\rk x=R rk (arrOf st) i)\/∃ i,n1<=i/\i<n1+nb/\rk x=R rk (arrOf st) i:=λ x hx=>by
    rcases BH.mp (pm.mem_iff.mp hx) with hx|hx
    ·obtain⟨i,i1,i2,hi,rfl⟩:=ie (by lia) hx
     exact .inl ⟨i,by lia,i2,(bN hi).symm⟩
    ·obtain⟨i,i1,i2,hi,rfl⟩:=ie (by lia) hx
     exact .inr ⟨i,i1,i2,(bN hi).symm⟩
   have lowm:∀ i,i<=n1-1->R rk (arrOf st) i<=R rk (arrOf st) (n1-1):=λ i hi=>by
    by_cases e:i=n1-1
    ·rw[e];exact CS _
    ·exact Int.le_of_lt (s1 i (n1-1) (Cf _) (by lia) (by lia))
   have him:∀ i,n1<=i->i<n1+n2->R rk (arrOf st) n1<=R rk (arrOf st) i:=λ i a b=>by
    by_cases e:i=n1
    ·rw[e];exact CS _
    ·exact Int.le_of_lt (s2 n1 i (Nat.le_refl _) (by lia) b)
   refine Co.mpr ⟨Co.mpr ⟨?_,as,λ x hx y hy=>?_⟩,?_,λ x hx y hy=>?_⟩
   ·have:Asc rk ((arrOf st).extract 0 k).toList:=Seg.asc (λ i j a b c=>s1 i j a b (by lia)) (by lia)
    simpa using this
   ·obtain⟨i,i1,ei⟩:=memT x hx
    rcases memO y hy with ⟨j,j1,j2,ej⟩|⟨j,j1,j2,ej⟩
    ·rw[ei,ej];exact s1 i j (Cf _) (by lia) j2
    ·rw[ei,ej]
     have:=below i i1
     have:=him j j1 (by lia)
     lia
   ·have:Asc rk ((arrOf st).extract (n1+nb) (n1+n2)).toList:=Seg.asc (λ i j a b c=>s2 i j (by lia) b c) (by lia)
    rw[C7,D2,Dt (by simp;lia)] at this
    exact this
   ·obtain⟨j,j1,j2,ej⟩:=memD y hy
    have t:=top j j1 j2
    rcases BH.mp hx with hx|hx
    ·obtain⟨i,i1,ei⟩:=memT x hx
     have:=lowm i (by lia)
     rw[ei,ej];lia
    ·rcases memO x hx with ⟨i,i1,i2,ei⟩|⟨i,i1,i2,ei⟩
     ·have:=lowm i (by lia)
      rw[ei,ej];lia
     ·rw[ei,ej];exact s2 i j i1 (by lia) j2
 refine bx (λ c3=>?_) λ c3=>?_
 ·exact BO (l9 C B1.kind memX memY DD aX aY (by lia) (by lia) Z0 ZL λ out st' lk pm as=>fin out st' lk pm as)
 ·exact BO (lF C B1.kind memX memY DD aX aY (by lia) (by lia) Z0 ZL λ out st' lk pm as=>fin out st' lk pm as)
set_option maxHeartbeats 4000000 in
theorem jn {st:SortSt}{Q:Unit->SortSt->Prop}(C:Cmp prog w A s rk κ a₀.toList) (D:(a₀.toList.map rk).Nodup) (hB:SB a₀ κ #[] st) (h2:2<=a₀.size) (h128:a₀.size<128)
  (h:∀ st',(arrOf st').Perm a₀->failedOf st'=none->Seg rk (arrOf st') 0 a₀.size->Q () st'):wpS (model prog w) A E s sortRuns' Q st:=by
 rw[sortRuns'_eq]
 refine BO (D9 ?_)
 dsimp only
 obtain⟨mr,hmr,m1,m2,m3⟩:∃ mr,minRun' a₀.size a₀.size 0=mr/\1<=mr/\mr<=a₀.size/\a₀.size<=2*mr:=by
  obtain⟨f,hf⟩:∃ f,a₀.size=f+2:=⟨a₀.size-2,by lia⟩
  rw[hf,minRun'_succ]
  by_cases q:f+2<64
  ·rw[BN q];exact⟨_,rfl,by lia,by lia,by lia⟩
  ·rw[BI q,minRun'_succ,BN (by lia)];exact⟨_,rfl,by lia,by lia,by lia⟩
 simp only[hB.size,hmr]
 refine BO (Dn (CH
  (I:=λ x c st'=>(x=0/\c=(none,0)/\SB a₀ κ #[] st')\/(∃ n1,x=1/\c=(none,n1)/\mr<=n1/\n1<a₀.size/\SB a₀ κ #[(0,n1,0)] st'/\Seg rk (arrOf st') 0 n1)\/(1<=x/\c=(none,a₀.size)/\Two rk κ a₀ st'))
  (Q:=λ c st'=>c=(none,a₀.size)/\Two rk κ a₀ st') ?step ?fin (.inl ⟨rfl,rfl,hB⟩)) ?post)
 case fin=>
  rintro c st' (⟨hx,_,_⟩|⟨n1,hx,_⟩|⟨_,hc,hD⟩)
  ·lia
  ·lia
  ·exact⟨hc,hD⟩
 case step=>
  rintro x c st' _ hx (⟨rfl,rfl,hB'⟩|⟨n1,rfl,rfl,k1,k2,hB',sg⟩|⟨hx1,rfl,hD⟩)
  ·dsimp only
   rw[BI (by lia)]
   simp only[Nat.sub_zero,C4]
   refine BO (wpS_countRun C D (by lia) (by lia) hB' λ m st2 hB2 hm1 hm2 hs2 ho2=>?_)
   dsimp only
   rw[C4] at hs2
   have pe:∀ (n:Nat) (st3:SortSt),SB a₀ κ #[] st3->SB a₀ κ #[(0,n,0)] (setPending st3 ((pendingOf st3).push (0,n,0))):=λ n st3 b3=>⟨b3.perm,b3.kind,b3.failed,by show (pendingOf st3).push _=_;rw[b3.pend];rfl⟩
   by_cases hlt:m<mr
   ·rw[BN hlt]
    refine BO (EZ (Dk ⟨rfl,?_⟩))
    refine BO (wpS_binarySort C D (by lia) (by lia) hB2 (by rw[C4];exact hs2) λ st3 hB3 hs3 ho3=>?_)
    rw[C4] at hs3
    simp only[Du,B0,CJ]
    refine BO (D9 ?_)
    have hb:(pendingOf st3).back? = none:=by rw[hB3.pend];rfl
    rw[hb]
    dsimp only
    refine BO (DJ (BZ ?_))
    have em:min a₀.size mr=mr:=Nat.min_eq_right m2
    have P1:=pe (min a₀.size mr) st3 hB3
    by_cases e:min a₀.size mr=a₀.size
    ·refine .inr (.inr ⟨Nat.le_refl _,congrArg (Prod.mk none) e,.inl ⟨0,?_,?_⟩⟩)
     ·exact⟨P1.perm,P1.kind,P1.failed,P1.pend.trans (by rw[e])⟩
     ·exact λ i j a b c=>hs3 i j a b (by lia)
    ·exact .inr (.inl ⟨min a₀.size mr,by trivial,rfl,by lia,by lia,P1,hs3⟩)
   ·rw[BI hlt]
    refine BO (D9 ?_)
    have hb:(pendingOf st2).back? = none:=by rw[hB2.pend];rfl
    rw[hb]
    dsimp only
    refine BO (DJ (BZ ?_))
    by_cases e:m=a₀.size
    ·subst e
     exact .inr (.inr ⟨Nat.le_refl _,rfl,.inl ⟨0,pe _ st2 hB2,hs2⟩⟩)
    ·exact .inr (.inl ⟨m,by trivial,rfl,by lia,by lia,pe m st2 hB2,hs2⟩)
  ·dsimp only
   rw[BI (by lia)]
   refine BO (wpS_countRun C D (by lia) (by lia) hB' λ m st2 hB2 hm1 hm2 hs2 ho2=>?_)
   dsimp only
   have keep:∀ st3:SortSt,(∀ k,k<n1->(arrOf st3)[k]? = (arrOf st')[k]?)->Seg rk (arrOf st3) 0 n1:=λ st3 e i j a b c=>by
    rw[dS (e i (by lia)),dS (e j c)];exact sg i j a b c
   have last:∀ (n2:Nat) (st3:SortSt) (pw:Nat),n1+n2=a₀.size->SB a₀ κ #[(0,n1,0)] st3->Seg rk (arrOf st3) 0 n1->Seg rk (arrOf st3) n1 (n1+n2) ->
     wpS (model prog w) A E s (do
      modify λ s=>setPending s ((pendingOf s).modify ((pendingOf s).size-1) λ x=>(x.fst,x.2.fst,pw))
      modify λ s=>setPending s ((pendingOf s).push (n1,n2,0))
      pure (ForInStep.yield ((none:Option Unit),n1+n2))) (λ r st4=>match r with
       | .done c=>c=(none,a₀.size)/\Two rk κ a₀ st4
       | .yield c=>(1+1=0/\c=(none,0)/\SB a₀ κ #[] st4)\/(∃ n1,1+1=1/\c=(none,n1)/\mr<=n1/\n1<a₀.size/\SB a₀ κ #[(0,n1,0)] st4/\Seg rk (arrOf st4) 0 n1)\/(1<=1+1/\c=(none,a₀.size)/\Two rk κ a₀ st4)) st3:=λ n2 st3 pw en b3 g1 g2=>by
    refine BO (DJ (BO (DJ (BZ ?_))))
    refine .inr (.inr ⟨by lia,by rw[en],.inr ⟨n1,n2,pw,⟨b3.perm,b3.kind,b3.failed,?_⟩,by lia,by lia,en,g1,g2⟩⟩)
    show ((pendingOf st3).modify ((pendingOf st3).size-1) λ x=>(x.fst,x.2.fst,pw)).push (n1,n2,0)=_
    rw[b3.pend]
    rfl
   by_cases hlt:m<mr
   ·rw[BN hlt]
    refine BO (EZ (Dk ⟨rfl,?_⟩))
    refine BO (wpS_binarySort (n:=min (a₀.size-n1) mr) C D (by lia) (by lia) hB2 hs2 λ st3 hB3 hs3 ho3=>?_)
    simp only[Du,B0,CJ]
    refine BO (D9 ?_)
    have hb:(pendingOf st3).back? = some (0,n1,0):=by rw[hB3.pend];rfl
    rw[hb]
    dsimp only
    refine BO (Dn (CH (I:=λ _ c st''=>st''=st3/\c=(none,())) (Q:=λ c st''=>st''=st3/\c=(none,())) ?_ (λ _ _ hh=>hh) ⟨rfl,rfl⟩) ?_)
    ·rintro x c st'' _ _ ⟨rfl,rfl⟩
     refine BO (D9 ?_)
     rw[hB3.pend]
     exact BZ ⟨rfl,rfl⟩
    ·rintro c st'' ⟨rfl,rfl⟩
     exact last _ _ _ (by lia) hB3 (keep _ λ k hk=>(ho3 k (.inl hk)).trans (ho2 k (.inl hk))) hs3
   ·rw[BI hlt]
    refine BO (D9 ?_)
    have hb:(pendingOf st2).back? = some (0,n1,0):=by rw[hB2.pend];rfl
    rw[hb]
    dsimp only
    refine BO (Dn (CH (I:=λ _ c st''=>st''=st2/\c=(none,())) (Q:=λ c st''=>st''=st2/\c=(none,())) ?_ (λ _ _ hh=>hh) ⟨rfl,rfl⟩) ?_)
    ·rintro x c st'' _ _ ⟨rfl,rfl⟩
     refine BO (D9 ?_)
     rw[hB2.pend]
     exact BZ ⟨rfl,rfl⟩
    ·rintro c st'' ⟨rfl,rfl⟩
     exact last _ _ _ (by lia) hB2 (keep _ λ k hk=>ho2 k (.inl hk)) hs2
  ·dsimp only
   rw[BN (Nat.le_refl _)]
   exact BZ ⟨rfl,hD⟩
 case post=>
  rintro c st' ⟨rfl,hD⟩
  dsimp only
  refine BO (Dn (CH (I:=λ x c st''=>c=(none,())/\((∃ pw,SB a₀ κ #[(0,a₀.size,pw)] st''/\Seg rk (arrOf st'') 0 a₀.size)\/(x=0/\Two rk κ a₀ st'')))
   (Q:=λ c st''=>c=(none,())/\∃ pw,SB a₀ κ #[(0,a₀.size,pw)] st''/\Seg rk (arrOf st'') 0 a₀.size) ?_ ?_ ⟨rfl,.inr ⟨rfl,hD⟩⟩) ?_)
  ·rintro x c st'' _ _ ⟨rfl,h⟩
   refine BO (D9 ?_)
   rcases h with ⟨pw,b,g⟩|⟨rfl,⟨pw,b,g⟩|⟨n1,n2,pw,b,k1,k2,k3,g1,g2⟩⟩
   ·rw[BN (by rw[b.pend];exact Nat.le_refl 1)]
    exact BZ ⟨rfl,pw,b,g⟩
   ·rw[BN (by rw[b.pend];exact Nat.le_refl 1)]
    exact BZ ⟨rfl,pw,b,g⟩
   ·rw[b.pend]
    refine bx (λ z=>absurd (show 2<=1 from z) (by decide)) λ _=>?_
    refine BO (kP C D b k1 k2 k3 g1 g2 λ st3 b3 g3=>?_)
    rw[k3] at b3
    exact BZ ⟨rfl,.inl ⟨pw,b3,g3⟩⟩
  ·rintro c st'' ⟨rfl,h⟩
   rcases h with ⟨pw,b,g⟩|⟨e,_⟩
   ·exact⟨rfl,pw,b,g⟩
   ·lia
  ·rintro c st'' ⟨rfl,pw,b,g⟩
   exact BZ (h _ b.perm b.failed g)
end
open PySem PyProof.Rows PySem.W
noncomputable def Tri (h:Heap) (v:Value) (x y z:Int):Prop:=∃ b o n t1 t2 t3,v=.ref b/\h.get? b=some o/\o.cls=.type "tuple" /\ o.data=.seq #[.int x t1,.int y t2,.int z t3] n/\0<=y/\y<1000/\0<=z/\z<1000
noncomputable def cO (x y z:Int):Int:=x*1000000+y*1000+z
noncomputable def cn (h:Heap) (v:Value):Int:=match v with
 | .ref b=>match h.get? b with
  | some o=>match o.data with
   | .seq xs _=>match xs.toList with
    | [.int x _,.int y _,.int z _]=>cO x y z
    | _=>0
   | _=>0
  | none=>0
 | _=>0
theorem Tri.rk (t:Tri h v x y z):cn h v=cO x y z:=by
 obtain⟨b,o,n,j,q,F,rfl,e,_,d,_⟩:=t
 unfold cn
 simp only[e,d]
theorem Tri.keeps (k:∀ b o,o.cls=.type "tuple" -> h.get? b=some o->h'.get? b=some o) (t:Tri h v x y z):Tri h' v x y z:=by
 obtain⟨b,o,n,j,q,F,rfl,e,c,r⟩:=t
 exact⟨b,o,n,j,q,F,rfl,k b o c e,c,r⟩
section
variable {prog:Program}{w:World}{A:Around}{E:Value->Shared->Prop}{s:Shared}
theorem lt3 (t:Tri s.heap v x y z) (t':Tri s.heap u x' y' z') (h:Q (decide (cO x y z<cO x' y' z')) s):wpAny (model prog w) A (keyLt' (tuples' true) v u) Q E s:=by
 obtain⟨b,o,n,M,O,U,rfl,e,c,d,Z,q2,q3,q4⟩:=t
 obtain⟨V,o',Y,j,q,F,rfl,L,W,J,r1,r2,r3,r4⟩:=t'
 unfold cO at h
 refine kat_lt e d L J ?_
 show KatLex prog w A true false Q [(.int x M,.int x' j),(.int y O,.int y' q),(.int z U,.int z' F)] 0 s
 refine kat_cons (DL ?_)
 by_cases h1:x=x'
 ·subst h1
  rw[show (x == x)=true by simp]
  refine kat_yes (kat_cons (DL ?_))
  by_cases h2:y=y'
  ·subst h2
   rw[show (y == y)=true by simp]
   refine kat_yes (kat_cons (DL ?_))
   by_cases G:z=z'
   ·subst G
    rw[show (z == z)=true by simp]
    refine kat_yes (kat_nil ?_)
    rwa [show decide (x*1000000+y*1000+z<x*1000000+y*1000+z)=false by simp] at h
   ·rw[show (z == z')=false by simpa using G]
    refine kat_no (kat_one _ _ (lt_int ?_))
    show Q _ s
    rwa [show decide (x*1000000+y*1000+z<x*1000000+y*1000+z')=decide (z<z') by rw[DM];lia] at h
  ·rw[show (y == y')=false by simpa using h2]
   refine kat_no (kat_one _ _ (lt_int ?_))
   show Q _ s
   rwa [show decide (x*1000000+y*1000+z<x*1000000+y'*1000+z')=decide (y<y') by rw[DM];lia] at h
 ·rw[show (x == x')=false by simpa using h1]
  refine kat_no (oneLt_int ?_)
  rwa [show decide (x*1000000+y*1000+z<x'*1000000+y'*1000+z')=decide (x<x') by rw[DM];lia] at h
theorem nZ:∀ {vs:List Value},(∀ v∈vs,∃ x y z,Tri h v x y z)->∃ fs,KatTups h vs fs/\fs.length=vs.length/\∀ f∈fs,∃ x t,f=Value.int x t
 | [],_=>⟨[],.nil,rfl,λ _ h=>by cases h⟩
 | v::vs,t=>by
  obtain⟨fs,k,l,a⟩:=nZ λ v q=>t v (BQ _ q)
  obtain⟨x,y,z,b,o,n,F,G,J,rfl,e,c,d,_⟩:=t v BR
  refine⟨.int x F::fs,.cons e c d rfl k,by rw[Ci,Ci,l],λ f j=>?_⟩
  rcases BF.mp j with rfl|j
  ·exact⟨_,_,rfl⟩
  ·exact a f j
theorem xc {vs:List Value}{Q:SortKind->Shared->Prop}(h2:0<vs.length) (t:∀ v∈vs,∃ x y z,Tri s.heap v x y z) (h:Q (tuples' true) s):wpAny (model prog w) A (keyKind' vs.toArray) Q E s:=by
 obtain⟨fs,k,l,a⟩:=nZ t
 refine kat_kind (T:=.type "int") k (by lia) (λ v j=>?_) rfl h
 obtain⟨x,t,rfl⟩:=a v j
 exact Looks.of_pure rfl
theorem eB (vs):(pairsOf vs).toList=vs.zip vs:=by
 unfold pairsOf;simp
theorem kx (f:Value->Int) (vs:List Value):(vs.zip vs).map (λ p:Keyed=>f p.1)=vs.map f:=by
 induction vs with
 | nil=>rfl
 | cons v vs j=>simp only[Fu,Ce,j]
theorem kB {vs:List Value}{p:Keyed}(h:p∈vs.zip vs):p.1=p.2/\p.1∈vs:=by
 induction vs with
 | nil=>cases h
 | cons v vs j=>
  rw[Fu] at h
  rcases BF.mp h with rfl|h
  ·exact⟨rfl,BR⟩
  ·exact⟨(j h).1,BQ _ (j h).2⟩
theorem hE {a:Addr}{vs:List Value}{n:Nat}{P:PySem.Fin->Shared->Prop}(ho:s.heap.get? a=some (seqObj "list" vs.toArray n)) (t:∀ v∈vs,∃ x y z,Tri s.heap v x y z) (hd:(vs.map (cn s.heap)).Nodup) (h128:vs.length<128)
  (h:∀ out:Array Value,out.toList.Perm vs->out.toList.Pairwise (λ u v=>cn s.heap u<cn s.heap v)->P (.done (.ret .none)) { s with heap:=sortedHeap s.heap a vs out }) :
  wpAny (model prog w) A (Builtin.«list.sort» ⟨[.ref a],[]⟩) P E s:=by
 rw[list_sort_plain]
 have ha:a<s.heap.objs.size:=Heap.lt_size ho
 refine Bx (listItems_at ho rfl ?_)
 refine Bx (FW ho rfl ?_ (by rw[B9,DE];lia) (Cf _))
 obtain⟨e1,ho1⟩:∃ e1,(s.heap.update a (Obj.mapSeq λ _=>#[])).get? a=some (seqObj "list" #[] e1):=⟨_,get?_update_seq ho (λ _=>#[])⟩
 refine Bx (seqEpoch_at ho1 rfl ?_)
 refine Bx (wpAny_newTuple ?_ (by show vs.length<=_;rw[DE];lia))
 refine Bx (EV ?_ (Cf _))
 refine CD ?_
 have ho6:(((s.heap.update a (Obj.mapSeq λ _=>#[])).push (seqObj "tuple" vs.toArray 0)).push (seqObj "list" #[] 0)).get? a=some (seqObj "list" #[] e1):=by
  rw[Heap.get?_push_ne _ _ _ (by rw[size_push',Heap.size_update];exact BU (Dd ha)),Heap.get?_push_ne _ _ _ (by rw[Heap.size_update];exact BU ha)]
  exact ho1
 have kp:∀ b o,o.cls=.type "tuple" -> s.heap.get? b=some o->(((s.heap.update a (Obj.mapSeq λ _=>#[])).push (seqObj "tuple" vs.toArray 0)).push (seqObj "list" #[] 0)).get? b=some o:=λ b o c e=>by
  have hb:b≠a:=λ z=>by rw[z,ho] at e;cases e;exact absurd (show Value.type "list" = Value.type "tuple" from c) (by decide)
  exact Heap.get?_push_of_some _ (Heap.get?_push_of_some _ ((Heap.get?_update_ne _ _ _ _ hb).trans e))
 show wpAny (model prog w) A _ P E { s with heap:=((s.heap.update a (Obj.mapSeq λ _=>#[])).push (seqObj "tuple" vs.toArray 0)).push (seqObj "list" #[] 0) }
 dsimp only
 have hsz:vs.toArray.size=vs.length:=by simp
 by_cases h2:vs.toArray.size<2
 ·rw[BN h2,BN h2]
  refine Bx (BA ?_)
  rw[StateT.run_pure]
  refine Bx (BA ?_)
  dsimp only
  refine Bx (seqEpoch_at ho6 rfl ?_)
  refine Bx (FW ho6 rfl ?_ (Cf _) (hsz2:=by rw[Ep];show (pairsOf vs).size<=_;rw[FD,DE];lia))
  simp only[FF,B0,CJ]
  have e:((arrOf (SortSt.mk' general' (vs.toArray.zip vs.toArray) #[] 7 none)).map (·.2))=vs.toArray:=by
   show (vs.toArray.zip vs.toArray).map (·.2)=_
   apply Array.toList_inj.mp
   rw[FN]
   simp
   exact List.map_snd_zip (Nat.le_refl _)
  refine BA ?_
  show P _ { s with heap:=sortedHeap s.heap a vs ((arrOf (SortSt.mk' general' (vs.toArray.zip vs.toArray) #[] 7 none)).map (·.2)) }
  rw[e]
  refine h vs.toArray (.refl _) ?_
  match vs,hsz,h2 with
  | [],_,_=>exact .nil
  | [_],_,_=>exact List.pairwise_singleton _ _
  | _::_::_,_,h2=>exact absurd h2 (by simp)
 ·rw[BI h2,BI h2]
  have t6:∀ v∈vs,∃ x y z,Tri (((s.heap.update a (Obj.mapSeq λ _=>#[])).push (seqObj "tuple" vs.toArray 0)).push (seqObj "list" #[] 0)) v x y z:=λ v hv=>let ⟨x,y,z,q⟩:=t v hv;⟨x,y,z,q.keeps kp⟩
  have mem0:∀ p∈(pairsOf vs).toList,p.1=p.2/\p.1∈vs:=λ p hp=>by rw[eB] at hp;exact kB hp
  refine Bx (xc (by lia) t6 ?_)
  refine Bx (Cw (jn (rk:=λ p=>cn s.heap p.1) (κ:=tuples' true) (a₀:=pairsOf vs) (st:=SortSt.mk' (tuples' true) (vs.toArray.zip vs.toArray) #[] 7 none)
   (Q:=λ _ st'=>(arrOf st').Perm (pairsOf vs)/\failedOf st'=none/\Seg (λ p=>cn s.heap p.1) (arrOf st') 0 (pairsOf vs).size)
   (λ x hx y hy E' Q' q=>?_) ?_ ⟨Array.Perm.refl _,rfl,rfl,rfl⟩ (by rw[FD];lia) (by rw[FD];exact h128) λ st' a1 a2 a3=>⟨a1,a2,a3⟩) ?_ λ _ _ e=>e)
  ·obtain⟨x1,x2,x3,tx⟩:=t x.1 (mem0 x hx).2
   obtain⟨y1,y2,y3,ty⟩:=t y.1 (mem0 y hy).2
   refine lt3 (tx.keeps kp) (ty.keeps kp) ?_
   have q':Q' (decide (cn s.heap x.1<cn s.heap y.1)) _:=q
   rw[tx.rk,ty.rk] at q'
   exact q'
  ·rw[eB,kx (cn s.heap)];exact hd
  ·rintro⟨⟨⟩,st'⟩ s' ⟨rfl,hp,hf,hs⟩
   dsimp only
   have hpl:=D3.mp hp
   refine Bx (seqEpoch_at ho6 rfl ?_)
   refine Bx (FW ho6 rfl ?_ (Cf _) (hsz2:=by refine B6 (Ek ((Ep ..).trans (hp.size_eq.trans (FD _)))) ?_;rw[DE];lia))
   rw[hf]
   simp only[FF,B0,CJ]
   refine BA ?_
   show P _ { s with heap:=sortedHeap s.heap a vs ((arrOf st').map (·.2)) }
   refine h _ ?_ ?_
   ·rw[FN]
    refine(hpl.map _).trans ?_
    rw[eB,List.map_snd_zip (Nat.le_refl _)]
   ·rw[FN,C1]
    have z:(arrOf st').size=(pairsOf vs).size:=hp.size_eq
    rw[<- z] at hs
    refine(nT hs).imp_of_mem λ{p q} hp' hq' lt=>?_
    rw[<- (mem0 p (hpl.mem_iff.mp hp')).1,<- (mem0 q (hpl.mem_iff.mp hq')).1]
    exact lt
theorem qH {Q:PySem.Fin->Shared->Prop}{vs:List Value}(t:∀ v∈vs,∃ x y z,Tri s.heap v x y z) (hd:(vs.map (cn s.heap)).Nodup) (h128:vs.length<128)
  (h:∀ (out:Array Value) h' c,(∀ b o,s.heap.get? b=some o->h'.get? b=some o)->h'.get? s.heap.objs.size=some { cls:=.type "list",dict:=none,data:=.seq out c,slots:=#[] }->out.toList.Perm vs->out.toList.Pairwise (λ u v=>cn s.heap u<cn s.heap v) ->
   Q (.done (.ret (.ref s.heap.objs.size))) { s with heap:=h' }) :
  wpAny (model prog w) A (do let l <- newList vs;let _ <- holding [l] (call (.builtin "list.sort") [l] []);ret l) Q E s:=by
 refine Bx (EV ?_ (by rw[DE];lia))
 have hoL:(s.heap.push (seqObj "list" vs.toArray 0)).get? s.heap.objs.size=some (seqObj "list" vs.toArray 0):=Heap.get?_push_size _ rfl
 have kp:∀ b o,o.cls=.type "tuple" -> s.heap.get? b=some o->(s.heap.push (seqObj "list" vs.toArray 0)).get? b=some o:=λ b o _ e=>Heap.get?_push_of_some _ e
 have ers:∀ v∈vs,cn (s.heap.push (seqObj "list" vs.toArray 0)) v=cn s.heap v:=λ v hv=>by
  obtain⟨x,y,z,q⟩:=t v hv
  rw[(q.keeps kp).rk,q.rk]
 refine Bx (CD (CU slot_list_sort ⟨_,hoL,rfl⟩ entry_list_sort (hE hoL (λ v hv=>let ⟨x,y,z,q⟩:=t v hv;⟨x,y,z,q.keeps kp⟩) ?_ h128 λ out a1 a2=>⟨_,rfl,?_⟩) (args_list_sort _)))
 ·show (vs.map (cn (s.heap.push (seqObj "list" vs.toArray 0)))).Nodup
  rw[Cr ers];exact hd
 ·obtain⟨e,he⟩:=sortedHeap_at (out:=out) hoL
  refine BA (h out _ e (λ b o q=>?_) he a1 ?_)
  ·have lt:=Heap.lt_size q
   show (sortedHeap (s.heap.push (seqObj "list" vs.toArray 0)) s.heap.objs.size vs out).get? b=some o
   rw[sortedHeap_old (BU lt) (by rw[Heap.size_push];exact Dd lt)]
   exact Heap.get?_push_of_some _ q
  ·refine a2.imp_of_mem λ{p q} hp hq lt=>?_
   rw[<- ers p (a1.mem_iff.mp hp),<- ers q (a1.mem_iff.mp hq)];exact lt
theorem ir {Q:Value->Shared->Prop}{x:Value}
  (hc:wpAny (model prog w) A.in1 (collect x) (λ vs s1=>(∀ v∈vs,∃ x y z,Tri s1.heap v x y z)/\(vs.map (cn s1.heap)).Nodup/\vs.length<128 /\
   ∀ (out:Array Value) h' c,(∀ b o,s1.heap.get? b=some o->h'.get? b=some o)->h'.get? s1.heap.objs.size=some { cls:=.type "list",dict:=none,data:=.seq out c,slots:=#[] }->out.toList.Perm vs->out.toList.Pairwise (λ u v=>cn s1.heap u<cn s1.heap v) ->
    Q (.ref s1.heap.objs.size) { s1 with heap:=h' }) E s) :
  wpAny (model prog w) A (call (.builtin "sorted") [x]) Q E s:=by
 refine Calls.call_function_entry kind_sorted plain_sorted entry_sorted (args_sorted1 _) ?_
 unfold Builtin.«sorted»
 refine Bx (m:=checkCount "sorted" 1 1 _) (BA ?_)
 refine Bx (Cw hc (λ vs s1 h1=>?_) λ _ _ e=>e)
 obtain⟨t,hd,h128,fin⟩:=h1
 exact qH t hd h128 λ out h' c a b d e=>⟨_,rfl,fin out h' c a b d e⟩
end
end Tim
namespace L2
open PySem PySem.Spec PyProof.Rows
noncomputable def rk3 (H:Hp) (v:V):Int:=match v with
 | .ref b=>match H b with
  | some (.tup [.int x,.int y,.int z])=>Tim.cO x y z
  | _=>0
 | _=>0
noncomputable def Nm (H:Hp) (v:V):Prop:=∃ b x y z,v=.ref b/\H b=some (.tup [.int x,.int y,.int z])/\0<=y/\y<1000/\0<=z/\z<1000
section
variable {X:Cx}
theorem nH (L:HOk P w H h) (e:H b=some (.tup [.int x,.int y,.int z])) (q:0<=y/\y<1000/\0<=z/\z<1000):Tim.Tri h (.ref b) x y z:=by
 obtain⟨_,J,r,o,G,j,n,F⟩:=L b _ e
 cases r with
 | cons M r=>
 cases r with
 | cons O r=>
 cases r with
 | cons U r=>
 cases r
 obtain⟨V,rfl⟩:=M
 obtain⟨W,rfl⟩:=O
 obtain⟨Y,rfl⟩:=U
 exact⟨b,o,n,V,W,Y,rfl,G,j,F,q.1,q.2.1,q.2.2.1,q.2.2.2⟩
theorem oP:∀ {j:List V}{its:List Value},(∀ v∈j,Nm H v)->Vals j its->∃ bs:List Addr,j=bs.map V.ref/\its=bs.map Value.ref
 | _,_,_,.nil=>⟨[],rfl,rfl⟩
 | v::j,u::its,n,.cons r t=>by
  obtain⟨bs,q,z⟩:=oP (λ v F=>n v (BQ _ F)) t
  obtain⟨b,_,_,_,rfl,_⟩:=n v BR
  cases r
  exact⟨b::bs,by rw[q];rfl,by rw[z];rfl⟩
theorem jH (h:out.Perm (bs.map Value.ref)):∃ j:List Addr,out=j.map Value.ref/\j.Perm bs:=by
 refine⟨out.map λ v=>match v with | .ref a=>a|_=>0,?_,?_⟩
 ·rw[Cs]
  symm
  refine(Cr λ v q=>?_).trans (FO _)
  obtain⟨b,_,rfl⟩:=BV.mp (h.mem_iff.mp q)
  rfl
 ·refine(h.map _).trans ?_
  rw[Cs]
  exact .of_eq ((Cr λ _ _=>rfl).trans (FO _))
theorem gF:∀ (bs:List Addr),Vals (bs.map V.ref) (bs.map Value.ref)
 | []=>.nil
 | _::bs=>.cons rfl (gF bs)
noncomputable def vA (K:PySem.W.Frag):List V->Hp->VK->Prop:=λ xs H Q=>∃ p ls,xs=[.ref p]/\SqL K H p ls/\ls.length<128/\(∀ v∈ls,Nm H v)/\(ls.map (rk3 H)).Nodup /\
 ∀ l ls',H l=none->ls'.Perm ls->ls'.Pairwise (λ u v=>rk3 H u<rk3 H v)->Q (.ref l) (upd H l (.lst ls'))
theorem mP {K:PySem.W.Frag}(hK:X.K=K:=by rfl):cx X (.builtin "sorted") (vA K):=by
 subst hK
 intro pins s σ H xs us Q I r h
 obtain⟨p,ls,rfl,hq,M,nm,nd,q⟩:=h
 obtain⟨u,rfl,rx⟩:=vals1 r
 cases rx
 obtain⟨a2,r',pl,hz⟩:=I.list hq
 obtain⟨J,rfl,rfl⟩:=oP nm r'
 have Z:∀ b o,s.heap.get? b=some o->((s.heap.push (seqObj "list" #[] 0)).update s.heap.objs.size (Obj.mapSeq (· ++ (J.map Value.ref).toArray))).get? b=some o:=λ b o e=>
  (Heap.get?_update_other _ _ (C5 (Heap.lt_size e))).trans (Heap.get?_push_of_some _ e)
 have U:Inv X pins σ H { s with heap:=(s.heap.push (seqObj "list" #[] 0)).update s.heap.objs.size (Obj.mapSeq (· ++ (J.map Value.ref).toArray)) }:=I.kept (t':=s.toks) Z
 have j:∀ b∈J,Tim.cn ((s.heap.push (seqObj "list" #[] 0)).update s.heap.objs.size (Obj.mapSeq (· ++ (J.map Value.ref).toArray))) (.ref b)=rk3 H (.ref b)/\∃ x y z,Tim.Tri ((s.heap.push (seqObj "list" #[] 0)).update s.heap.objs.size (Obj.mapSeq (· ++ (J.map Value.ref).toArray))) (.ref b) x y z:=λ b G=>by
  obtain⟨b',x,y,z,e,L,qq⟩:=nm _ (BX G)
  cases e
  have T:=nH U.hok L qq
  exact⟨by rw[T.rk];unfold rk3;simp only[L],x,y,z,T⟩
 refine Tim.ir (collect_list pl.isList ⟨λ v hv=>?_,?_,by simpa using M,λ a1 h' c Y e pm so=>?_⟩ (by rw[DE];simp at M ⊢;lia))
 ·obtain⟨b,G,rfl⟩:=BV.mp hv
  exact(j b G).2
 ·rw[Cs] at nd ⊢
  exact(Cr (f:=Tim.cn ((s.heap.push (seqObj "list" #[] 0)).update s.heap.objs.size (Obj.mapSeq (· ++ (J.map Value.ref).toArray))) ∘ Value.ref) (g:=rk3 H ∘ V.ref) λ b G=>(j b G).1) ▸ nd
 ·obtain⟨O,L,F⟩:=jH pm
  have W:(O.map V.ref).length<=sizeLine:=by
   rw[BB,F.length_eq];simpa using hz
  refine⟨.ref _,_,U.laid (t':=s.toks) Y (Nat.le_refl _) (show bo X.prog X.w _ h' _ (.lst (O.map V.ref)) from ⟨W,a1.toList,c,by rw[L];exact gF O,by rw[e]⟩),rfl,q _ (O.map V.ref) U.fresh (F.map _) ?_⟩
  rw[L,C1] at so
  rw[C1]
  refine so.imp_of_mem λ{b c} G hc lt=>?_
  rw[<- (j b (F.mem_iff.mp G)).1,<- (j c (F.mem_iff.mp hc)).1];exact lt
end
end L2
namespace Tim
open PySem PyProof.Rows PySem.W
theorem Walks.tZ (U:A.handled=none) (it d) (L:d≠it) (M:od.data=.dict es ep) :
  Walks prog w A it [it,d] [it] es.size (λ i v=>∃ e,es[i]? = some e/\v=e.key) (λ i h=>h.IsKeyIter it d i es.size ep/\h.get? d=some od) where
 sub:=λ b j=>by simp at j;simp[j]
 frame:=λ _ _ _ st O=>⟨st.1.at λ o e=>O it (by simp) o e,O d (by simp) _ st.2⟩
 item:=λ i s Q E hi st q=>by
  refine jj st.1 st.2 M hi λ h' F G=>?_
  exact q _ h' s.toks ⟨_,Cb hi,rfl⟩ ⟨F,(G.2 d L).trans st.2⟩ λ b o j e=>(G.2 b (λ z=>j (by simp[z]))).trans e
 done:=λ s Q E st q=>j7 U st.1 st.2 M (Nat.le_refl _) λ h' J=>q h' s.toks λ b o j e=>J b o (λ z=>j (by simp[z])) e
 self:=λ _ _ _ _ st q=>Fl st.1 q
section
variable {prog:Program}{w:World}{A:Around}{E:Value->Shared->Prop}{s:Shared}
theorem tL (M:A.units<cLine) (t:Tri s.heap v x y z) (t':Tri s.heap u x' y' z') (h:Q (.bool (decide (cO x y z<cO x' y' z'))) s):wpAny (model prog w) A (richCompare .Lt v u) Q E s:=by
 obtain⟨b,o,n,t1,t2,t3,rfl,e,c,d,Y,Z,q3,q4⟩:=t
 obtain⟨J,o',W,O,U,V,rfl,j,q,L,r1,r2,r3,r4⟩:=t'
 unfold cO at h
 refine wpAny_richCompare_same_room (op:=.Lt) ⟨o,e,c⟩ ⟨o',j,q⟩ F.slot_tuple_lt (CU F.slot_tuple_lt ⟨o,e,c⟩ F.entry_tuple_lt ?_ (F.args_tuple_lt_2 _ _)) M
 show wpAny _ _ (isInstance (.ref J) (.type "tuple") >>= _) _ _ s
 refine Bx (Dv (T:="tuple") ⟨o',j,q⟩ isSubtype_tuple_tuple ?_)
 simp only[Du,B0,CJ]
 refine Bx (wpAny_tupleItemsOf e d ?_)
 refine Bx (wpAny_tupleItemsOf j L ?_)
 refine Bx ?_
 simp only[Fu,List.zip_nil_right,Ea,List.forIn_nil]
 refine Bx (Bx (DL ?_))
 by_cases h1:x=x'
 ·subst h1
  rw[show (x == x)=true by simp]
  simp only[Du,B0,CJ]
  refine BA ?_
  dsimp only
  refine Bx (Bx (DL ?_))
  by_cases h2:y=y'
  ·subst h2
   rw[show (y == y)=true by simp]
   simp only[Du,B0,CJ]
   refine BA ?_
   dsimp only
   refine Bx (Bx (DL ?_))
   by_cases G:z=z'
   ·subst G
    rw[show (z == z)=true by simp]
    simp only[Du,B0,CJ]
    refine BA ?_
    dsimp only
    refine BA ?_
    dsimp only
    refine BA ⟨_,rfl,(λ z=>nomatch z),?_⟩
    rwa [show decide (x*1000000+y*1000+z<x*1000000+y*1000+z)=false by simp] at h
   ·rw[show (z == z')=false by simpa using G]
    simp only[Eo,DK]
    refine Bx (Dk (Bx (lt_int (Bx (BA (BA ?_))))))
    dsimp only
    repeat' (refine BA ?_;try dsimp only)
    refine⟨_,rfl,(λ z=>nomatch z),?_⟩
    rwa [show decide (x*1000000+y*1000+z<x*1000000+y*1000+z')=decide (z<z') by rw[DM];lia] at h
  ·rw[show (y == y')=false by simpa using h2]
   simp only[Eo,DK]
   refine Bx (Dk (Bx (lt_int (Bx (BA (BA ?_))))))
   dsimp only
   repeat' (refine BA ?_;try dsimp only)
   refine⟨_,rfl,(λ z=>nomatch z),?_⟩
   rwa [show decide (x*1000000+y*1000+z<x*1000000+y'*1000+z')=decide (y<y') by rw[DM];lia] at h
 ·rw[show (x == x')=false by simpa using h1]
  simp only[Eo,DK]
  refine Bx (Dk (Bx (lt_int (Bx (BA (BA ?_))))))
  dsimp only
  repeat' (refine BA ?_;try dsimp only)
  refine⟨_,rfl,(λ z=>nomatch z),?_⟩
  rwa [show decide (x*1000000+y*1000+z<x'*1000000+y'*1000+z')=decide (x<x') by rw[DM];lia] at h
end
noncomputable def Low (val:Nat->Int) (j m:Nat):Prop:=m<j/\∀ i,i<j->val m<=val i
section
variable {prog:Program}{w:World}{A:Around}{R:Result->Shared->Prop}{it S:Addr}{fp wr:List Addr}{n:Nat}{Pi:Nat->Value->Prop}{St:Nat->Heap->Prop}{x y z:Nat->Int}{bs:Nat->Addr}
theorem pO (W:Walks prog w A.in1 it fp wr n Pi St) (hv:∀ i v,Pi i v->v=.ref (bs i)) (out:S∉fp) (hu:A.in1.units<cLine) (hb:∀ i,i<n->bs i∉wr/\bs i≠S) :
  ∀ (left j:Nat) (s:Shared) (m:Nat) (c:Nat),left=n-j->0<j->j<=n->St j s.heap->Low (λ i=>cO (x i) (y i) (z i)) j m->(∀ i,i<n->Tri s.heap (.ref (bs i)) (x i) (y i) (z i)) ->
   s.heap.get? S=some { cls:=.type "list",dict:=none,data:=.seq #[.ref (bs m),.ref (bs m)] c,slots:=#[] } ->
   (∀ m' h' tk,Low (λ i=>cO (x i) (y i) (z i)) n m'->(∀ b o,b∉wr->b≠S->s.heap.get? b=some o->h'.get? b=some o)->R (.ok (.ret (.ref (bs m')))) { s with heap:=h',toks:=tk }) ->
   codeAny (model prog w) A (.builtin "min.loop" ⟨[.ref it,.none,.ref S],[]⟩) R s:=by
 have O:S∉wr:=λ z=>out (W.sub _ z)
 have nm:(toString "min" ++ toString ".loop" : String) = "min.loop":=by decide
 intro left
 induction left with
 | zero=>
  intro j s m c hl h0 hj Y tp ht hS J
  obtain rfl:j=n:=by lia
  refine CP F.entry_min_loop ?_
  rw[Around.under_plainId F.plain_min_loop _]
  refine Bx (FR hS rfl ?_)
  refine Bx (Fj (W.done s _ _ Y λ h' tk Z=>?_))
  refine Bx (DS (Z S _ O hS) rfl (Bx (Fm (BA ?_))))
  exact J m _ tk tp λ b o nb nS e=>(Heap.get?_update_other _ _ (Ne.symm nS)).trans (Z b o nb e)
 | succ left ih=>
  intro j s m c hl h0 hj Y tp ht hS J
  have lt:j<n:=by lia
  refine CP F.entry_min_loop ?_
  rw[Around.under_plainId F.plain_min_loop _]
  refine Bx (FR hS rfl ?_)
  refine Bx (Fj (W.item j s _ _ lt Y λ v h' tk pv M Z=>?_))
  have V:=Z S _ O hS
  have L:∀ i,i<n->Tri h' (.ref (bs i)) (x i) (y i) (z i):=λ i hi=>by
   obtain⟨b,o,q,t1,t2,t3,e0,e,r⟩:=ht i hi
   cases e0
   exact⟨_,o,q,t1,t2,t3,rfl,Z _ o (hb i hi).1 e,r⟩
  obtain rfl:=hv j v pv
  refine Bx (BA ?_)
  refine Bx (Fj (CD (Bx ?_)))
  refine tL hu (L j lt) (L m (by have:=tp.1;lia)) ?_
  refine Bx (CD (C9 ?_))
  refine Bx (Fm (BA ?_))
  by_cases g:cO (x j) (y j) (z j)<cO (x m) (y m) (z m)
  ·have a2:Low (λ i=>cO (x i) (y i) (z i)) (j+1) j:=⟨by lia,λ i hi=>by
    by_cases e:i=j
    ·subst e;exact CS _
    ·have:=tp.2 i (by lia)
     dsimp only at this ⊢
     lia⟩
   rw[BN (Cu g)]
   refine Bx (DS V rfl (Bx (Fm ?_)))
   rw[nm]
   refine BA ⟨Dm F.plain_min_loop _,ih (j+1) _ j _ (by lia) (by lia) lt (W.frame _ _ _ M λ b a3 o e=>?_) a2 (λ i hi=>?_) (Heap.get?_update_self _ V rfl) λ m' U G q a1=>?_⟩
   ·exact(Heap.get?_update_other _ _ (λ z:S=b=>out (z ▸ a3))).trans e
   ·obtain⟨b,o,q,t1,t2,t3,e0,e,r⟩:=L i hi
    cases e0
    exact⟨_,o,q,t1,t2,t3,rfl,(Heap.get?_update_other _ _ (Ne.symm (hb i hi).2)).trans e,r⟩
   ·exact J m' U G q λ b o nb nS e=>a1 b o nb nS ((Heap.get?_update_other _ _ (Ne.symm nS)).trans (Z b o nb e))
  ·have a2:Low (λ i=>cO (x i) (y i) (z i)) (j+1) m:=⟨by have:=tp.1;lia,λ i hi=>by
    by_cases e:i=j
    ·subst e
     dsimp only
     lia
    ·exact tp.2 i (by lia)⟩
   rw[BI (λ z=>g (CN z))]
   refine Bx (Fm ?_)
   rw[nm]
   refine BA ⟨Dm F.plain_min_loop _,ih (j+1) _ m c (by lia) (by lia) lt M a2 L V λ m' U G q a1=>?_⟩
   exact J m' U G q λ b o nb nS e=>a1 b o nb nS (Z b o nb e)
theorem m6 (W:Walks prog w A.in1 it fp wr n Pi St) (hv:∀ i v,Pi i v->v=.ref (bs i)) (out:S∉fp) (hu:A.in1.units<cLine) (V:∀ i,i<n->bs i∉wr/\bs i≠S) (hn:0<n) (Z:St 0 s.heap) (ht:∀ i,i<n->Tri s.heap (.ref (bs i)) (x i) (y i) (z i))
  (hS:s.heap.get? S=some { cls:=.type "list",dict:=none,data:=.seq #[] c,slots:=#[] })
  (O:∀ M h' tk,Low (λ i=>cO (x i) (y i) (z i)) n M->(∀ b o,b∉wr->b≠S->s.heap.get? b=some o->h'.get? b=some o)->R (.ok (.ret (.ref (bs M)))) { s with heap:=h',toks:=tk }) :
  codeAny (model prog w) A (.builtin "min.loop" ⟨[.ref it,.none,.ref S],[]⟩) R s:=by
 have J:S∉wr:=λ z=>out (W.sub _ z)
 have nm:(toString "min" ++ toString ".loop" : String) = "min.loop":=by decide
 refine CP F.entry_min_loop ?_
 rw[Around.under_plainId F.plain_min_loop _]
 refine Bx (FR hS rfl ?_)
 refine Bx (Fj (W.item 0 s _ _ hn Z λ v h' tk pv G kp=>?_))
 have j:=kp S _ J hS
 obtain rfl:=hv 0 v pv
 show wpAny _ A.in1 (updateSeq S (λ _=>#[.ref (bs 0),.ref (bs 0)]) >>= _) _ _ _
 refine Bx (DS j rfl ?_)
 rw[nm]
 refine BA ⟨Dm F.plain_min_loop _,pO (x:=x) (y:=y) (z:=z) W hv out hu V _ 1 _ 0 _ rfl (by lia) hn (W.frame _ _ _ G λ b Y o e=>?_) ⟨by lia,λ i hi=>?_⟩ (λ i hi=>?_) (Heap.get?_update_self _ j rfl) λ M U L q a1=>?_⟩
 ·exact(Heap.get?_update_other _ _ (λ z:S=b=>out (z ▸ Y))).trans e
 ·obtain rfl:i=0:=by lia
  exact CS _
 ·obtain⟨b,o,q,t1,t2,t3,e0,e,r⟩:=ht i hi
  cases e0
  exact⟨_,o,q,t1,t2,t3,rfl,(Heap.get?_update_other _ _ (Ne.symm (V i hi).2)).trans (kp _ o (V i hi).1 e),r⟩
 ·exact O M U L q λ b o nb nS e=>a1 b o nb nS ((Heap.get?_update_other _ _ (Ne.symm nS)).trans (kp b o nb e))
end
end Tim
namespace L2
open PySem PySem.Spec PyProof.Rows
section
variable {X:Cx}
noncomputable def uW:List V->Hp->VK->Prop:=λ xs H Q=>∃ b,xs=[.bl b]/\Q (.int (if b then 1 else 0)) H
theorem qj:cx X (.type "int") uW:=by
 intro pins s σ H xs F Q I r h
 obtain⟨b,rfl,q⟩:=h
 obtain⟨u,rfl,j⟩:=vals1 r
 cases j
 exact call_int_bool ⟨.int (if b then 1 else 0),H,I.tok _,⟨_,rfl⟩,q⟩
noncomputable def uC (kvs:List (List Key×V)) (ns:List (Int×Int×Int)):Prop:=kvs.map (·.1)=ns.map (λ n=>[Sum.inl n.1,Sum.inl n.2.1,Sum.inl n.2.2])
noncomputable def Aq:List V->Hp->VK->Prop:=λ xs H Q=>∃ a kvs ns,xs=[.ref a]/\Rd H a (.dT kvs)/\uC kvs ns/\ns≠[]/\(∀ n∈ns,0<=n.2.1/\n.2.1<1000/\0<=n.2.2/\n.2.2<1000) /\
 ∀ b n,n∈ns->(∀ m∈ns,Tim.cO n.1 n.2.1 n.2.2<=Tim.cO m.1 m.2.1 m.2.2)->H b=some (.tup [.int n.1,.int n.2.1,.int n.2.2])->Q (.ref b) H
theorem pZ (hc:X.calm=true) (hu:X.A.units+1<cLine):cx X (.builtin "min") Aq:=by
 intro pins s σ H xs us Q I r h
 obtain⟨a,kvs,G,rfl,e,hk,ne,sm,q⟩:=h
 obtain⟨u,rfl,rx⟩:=vals1 r
 cases rx
 obtain⟨z,hd,xs,a2,o,es,ep,ho,hx,O,he,a5,hn⟩:=gW I.hok e
 have lx:xs.length=kvs.length:=(Paired.length a2).symm
 have le:es.size=kvs.length:=by rw[<- lx];exact DC he
 have ln:G.length=kvs.length:=by have:=congrArg List.length hk;simpa using this.symm
 have J:∀ i,i<kvs.length->∃ n b v,G[i]? = some n/\xs[i]? = some ([Sum.inl n.1,Sum.inl n.2.1,Sum.inl n.2.2],b,v)/\H b=some (.tup [.int n.1,.int n.2.1,.int n.2.2]):=λ i hi=>by
  obtain⟨y,hy,Y,Z,f3⟩:=Paired.n9 a2 (Bz hi)
  have hn:G[i]? = some (G[i]'(by lia)):=Bz _
  have k1:(kvs.map (·.1))[i]? = some (kvs[i].1):=by rw[BC,Bz hi];rfl
  have a4:kvs.map (·.1)=G.map (λ n=>[Sum.inl n.1,Sum.inl n.2.1,Sum.inl n.2.2]):=hk
  rw[a4,BC,hn] at k1
  have k2:kvs[i].1=[Sum.inl (G[i]'(by lia)).1,Sum.inl (G[i]'(by lia)).2.1,Sum.inl (G[i]'(by lia)).2.2]:=(Option.some.inj k1).symm
  obtain⟨yk,yb,yv⟩:=y
  refine⟨_,yb,yv,hn,?_,?_⟩
  ·rw[hy]
   have:kvs[i].1=yk:=Y
   rw[<- this,k2]
  ·have a1:H yb=some (.tup (kvs[i].1.map kV)):=Z
   rw[k2] at a1
   exact a1
 have fg:∀ (i:Nat) (n:Int×Int×Int) (b:Addr) (v:Value),G[i]? = some n->xs[i]? = some ([Sum.inl n.1,Sum.inl n.2.1,Sum.inl n.2.2],b,v)->(xs[i]?.map (·.2.1)).getD 0=b/\(G[i]?.map (·.1)).getD 0=n.1/\(G[i]?.map (·.2.1)).getD 0=n.2.1/\(G[i]?.map (·.2.2)).getD 0=n.2.2:=λ i n b v h1 h2=>by
  rw[h1,h2];exact⟨rfl,rfl,rfl,rfl⟩
 have la:a<s.heap.objs.size:=Heap.lt_size ho
 have nm:(toString "min" ++ toString ".loop" : String) = "min.loop":=by decide
 refine call_function_tree F.kind_min F.plain_min F.entry_min (F.args_min1 _) ?_
 refine Bx (m:=Builtin.Builtins.bindParams "min" ["key","default"] 0 ⟨[],[]⟩) (CY (show Builtin.Builtins.bindParams "min" ["key","default"] 0 ⟨[],[]⟩=pure [none,none] from rfl) ?_)
 refine Bx (BA ?_)
 refine Bx (iC hd ho hx O ?_)
 refine Bx (Dp ?_)
 rw[nm]
 let h1:Heap:=s.heap.push { cls:=.type "dict_keyiterator",data:=.fields #[.ref a,.int 0 0,.int es.size 0,.int ep 0] }
 have sz:h1.objs.size=s.heap.objs.size+1:=Heap.size_push ..
 have U:∀ b o,s.heap.get? b=some o->(h1.push { cls:=.type "list",data:=.seq #[] 0 }).get? b=some o:=λ b o e=>Heap.get?_push_of_some _ (Heap.get?_push_of_some _ e)
 have a3:∀ i,i<kvs.length->(xs[i]?.map (·.2.1)).getD 0<s.heap.objs.size:=λ i hi=>by
  obtain⟨n,b,v,W,L,M⟩:=J i hi
  rw[(fg i n b v W L).1]
  exact I.hok.lt M
 refine BA ⟨Dm F.plain_min_loop _,Tim.m6 (S:=h1.objs.size) (bs:=λ i=>(xs[i]?.map (·.2.1)).getD 0) (x:=λ i=>(G[i]?.map (·.1)).getD 0) (y:=λ i=>(G[i]?.map (·.2.1)).getD 0) (z:=λ i=>(G[i]?.map (·.2.2)).getD 0)
  (Tim.Walks.tZ (by simpa using I.ok.hd hc) s.heap.objs.size a (BU la) O) (λ i v hv=>?_) ?_ (by simpa using hu) (λ i hi=>?_) ?_ ⟨⟨_,Heap.get?_push_of_some _ (Heap.get?_push_size _ rfl),rfl,rfl⟩,U _ _ ho⟩ (λ i hi=>?_) (Heap.get?_push_size _ rfl) λ m h' tk lo kp=>?_⟩
 ·obtain⟨en,W,rfl⟩:=hv
  have hi:i<es.size:=by
   rw[DA] at W;exact W.1
  obtain⟨n,b,v,L,M,_⟩:=J i (by lia)
  rw[(fg i n b v L M).1]
  have V:es.toList[i]? = some en:=by simpa using W
  rw[he,BC,M] at V
  cases V
  rfl
 ·intro z
  simp only[BF,BM,Ca] at z
  rw[sz] at z
  rcases z with z|z
  ·exact absurd z (Nat.succ_ne_self _)
  ·rw[<- z] at la;exact absurd la (Nat.not_lt.mpr (D1 _))
 ·have:=a3 i (by lia)
  refine⟨λ z=>?_,?_⟩
  ·simp only[BF,BM,Ca] at z
   exact BU this z
  ·rw[sz];exact BU (Dd this)
 ·rw[le,<- ln];exact List.length_pos_iff.mpr ne
 ·obtain⟨n,b,v,L,M,V⟩:=J i (by lia)
  obtain⟨Y,Z,f3,f4⟩:=fg i n b v L M
  dsimp only
  rw[Y,Z,f3,f4]
  exact(nH I.hok V (sm n (BJ L))).keeps λ b o _ e=>U b o e
 ·obtain⟨n,b,v,L,M,V⟩:=J m (by have:=lo.1;lia)
  obtain⟨Y,Z,f3,f4⟩:=fg m n b v L M
  dsimp only
  rw[Y]
  refine⟨.ref b,H,I.kept λ c oc e=>kp c oc ?_ ?_ (U c oc e),rfl,q b n (BJ L) (λ k hk=>?_) V⟩
  ·simp only[BD];exact BU (Heap.lt_size e)
  ·rw[sz];exact BU (Dd (Heap.lt_size e))
  ·obtain⟨j,hj,rfl⟩:=B2 hk
   obtain⟨n',b',v',g2,g3,_⟩:=J j (by lia)
   obtain⟨_,d2,d3,d4⟩:=fg j n' b' v' g2 g3
   have:=lo.2 j (by lia)
   dsimp only at this
   rw[Z,f3,f4,d2,d3,d4] at this
   rw[Bz hj] at g2
   cases g2
   exact this
end
end L2
namespace Zn
open PySem
section
variable {prog:Program}{w:World}{A:Around}{E:Value->Shared->Prop}{s:Shared}
end
end Zn
namespace L2
open PySem PySem.Spec PyProof.Rows
section
variable {X:Cx}{K:PySem.W.Frag}
end
theorem qU {K:PySem.W.Frag}{W Y:Addr}{xs ys:List V}{k:Nat}{g:TG}{tc:TT}{te:TE}{σ:St}{H1:Hp}{Q:VK}(a1:xs.length<=1000) (J:xs.length=ys.length)
  (h:∀ acc,H1 acc=none->∃ F:Nat->St->List V->Hp->Prop,F 0 (σ++List.replicate k none) [] (upd H1 acc (.lst []))/\(∀ i j zs H2,i<=xs.length->F i j zs H2->SqL K H2 W xs/\SqL K H2 Y ys/\zs.length<=i) /\
   (∀ i x y p j zs H2,i<xs.length->xs[i]? = some x->ys[i]? = some y->H2 p=none->F i j zs H2->g (.ref p) j (upd H2 p (.tup [x,y])) λ q Z=>tc q Z λ b O=>if b=true then te q O λ v U=>U acc=some (.lst zs)/\Nx xs.length i (F (i+1) q (zs++[v]) (upd U acc (.lst (zs++[v])))) else Nx xs.length i (F (i+1) q zs O)) /\
   ∀ j zs H2,F xs.length j zs H2->Q (.ref acc) H2):gS (Itz K W Y) k g tc te σ H1 Q:=by
 intro acc ha
 obtain⟨F,p0,pl,ps,pd⟩:=h acc ha
 refine⟨λ i m j zs H2=>m=xs.length-i/\i<=xs.length/\F i j zs H2,⟨xs.length,by simp,Cf _,p0⟩,?_⟩
 rintro i m j zs H2 ⟨rfl,hi,p⟩
 obtain⟨L,M,ln⟩:=pl i j zs H2 hi p
 by_cases G:i<xs.length
 ·refine .inr ⟨⟨xs,ys,xs[i],ys[i],L,M,by simp[G],by simp[J ▸ G]⟩,CQ ln (bg (by lia)),λ v H3 z=>?_⟩
  obtain⟨b,x,y,nb,rfl,rfl,z1,z2⟩:=z
  exact ps i x y b j zs H2 G (z1 xs L) (z2 ys M) nb p
 ·have e:i=xs.length:=by lia
  subst e
  exact .inl ⟨⟨xs,ys,L,M,.inl (Nat.le_refl _)⟩,pd j zs H2 p⟩
end L2
namespace PySem
section
variable {prog:Program}{w:World}{A:Around}{E:Value->Shared->Prop}{s:Shared}
theorem qw (M:A.handled=none) (I d) (F:d≠I) (es:Array DictEntry) (ep) :
  Walks prog w A I [I,d] [I] es.size (λ i v=>∃ h:i<es.size,v=es[i].key) (λ i h=>h.IsKeyIter I d i es.size ep/\∃ od,h.get? d=some od/\od.data=.dict es ep) where
 sub:=λ b j=>by simp at j;simp[j]
 frame:=λ _ _ _ st J=>⟨st.1.at λ o e=>J I (by simp) o e,let ⟨od,h1,h2⟩:=st.2;⟨od,J d (by simp) _ h1,h2⟩⟩
 item:=λ i s Q E hi st q=>by
  obtain⟨it,od,h1,h2⟩:=st
  refine jj it h1 h2 hi λ h' G L=>?_
  exact q _ h' s.toks ⟨hi,rfl⟩ ⟨G,od,by rw[L.2 d F];exact h1,h2⟩ λ b o j e=>by rw[L.2 b (λ z=>j (by simp[z]))];exact e
 done:=λ s Q E st q=>by
  obtain⟨it,od,h1,h2⟩:=st
  exact j7 M it h1 h2 (Nat.le_refl _) λ h' ex=>q h' s.toks λ b o j e=>ex b o (λ z=>j (by simp[z])) e
 self:=λ _ _ _ _ st q=>Fl st.1 q
theorem jl:isSubtype (.type "dict") (.type "dict")=pure true:=by rw[FU];kernel_rfl
theorem keys_eq {es:Array DictEntry}{acc:Array Value}(h:ItemsOf (λ i v=>∃ h:i<es.size,v=es[i].key) acc es.size):acc.toList=es.toList.map (·.key):=by
 refine DG λ i=>?_
 rw[BC,Cj,Cj]
 by_cases q:i<acc.size
 ·have j:=Cb q
  obtain⟨F,G⟩:=h.2 i _ j
  rw[j,Cb F,G];rfl
 ·rw[CW (by lia),CW (by have:=h.1;lia)];rfl
theorem mm {Q:List Value->Shared->Prop}{a:Addr}{o:Obj}{es:Array DictEntry}{ep:Nat}(hh:A.handled=none) (hd:(a == sysModules)=false) (ho:s.heap.get? a=some o) (hx:o.ExactDict) (G:o.data=.dict es ep) (a1:es.size<=sizeLine)
  (h:∀ h' tk,(∀ b o,s.heap.get? b=some o->h'.get? b=some o)->Q (es.toList.map (·.key)) { s with heap:=h',toks:=tk }) :
  wpAny (model prog w) A (collect (.ref a)) Q E s:=by
 have la:a<s.heap.objs.size:=Heap.lt_size ho
 have ne:s.heap.objs.size≠a:=C5 la
 unfold collect
 refine Bx (FT (CP F.entry_proto_collect ?_))
 rw[Around.under_plainId F.plain_proto_collect _]
 unfold Builtin.«proto.collect»
 refine Bx (EV ?_)
 refine BA ⟨Dm F.plain_list_iadd _,CP F.entry_list_iadd ?_⟩
 rw[Around.under_plainId F.plain_list_iadd _]
 unfold Builtin.«list.__iadd__»
 refine Bx (CY (a:=(.ref s.heap.objs.size,[.ref a])) rfl ?_)
 dsimp only
 unfold Builtin.List.listExtendWith
 have L:(s.heap.push { cls:=.type "list",data:=.seq ([]:List Value).toArray }).get? a=some o:=Heap.get?_push_of_some _ ho
 have T1:Shared.TypeIs { s with heap:=s.heap.push { cls:=.type "list",data:=.seq ([]:List Value).toArray } } (.ref a) "dict":=⟨o,L,hx.1⟩
 refine Bx (E6 T1 ?_)
 have h1:Builtin.List.listSameRef (.ref s.heap.objs.size) (.ref a)=false:=by simp[Builtin.List.listSameRef,ne]
 have h2:(Value.type "dict" == Value.type "list")=false:=by decide
 have h3:(Value.type "dict" == Value.type "tuple")=false:=by decide
 simp only[h1,h2,h3,Bool.or_false,B0,CJ]
 refine Bx (iC hd L hx G ?_)
 refine Bx (CD ?_)
 unfold Builtin.List.listLengthHint
 generalize O:({ cls:=.type "dict_keyiterator",data:=.fields #[.ref a,.int 0 0,.int es.size 0,.int ep 0] }:Obj)=V
 have M:((s.heap.push { cls:=.type "list",data:=.seq ([]:List Value).toArray }).push V).get? a=some o:=Heap.get?_push_of_some _ L
 have Z:Shared.TypeIs { s with heap:=(s.heap.push { cls:=.type "list",data:=.seq ([]:List Value).toArray }).push V } (.ref a) "dict":=⟨o,M,hx.1⟩
 refine Bx (EA Z F.slot_dict_len.lookup ?_)
 wp_delta
 refine Bx (Dv Z jl ?_)
 show wpAny _ A.in1 (typeOf (Value.ref a) >>= _) _ _ _
 refine Bx (E6 Z (BA ?_))
 rw[BN (by decide)]
 refine Bx (Dk ?_)
 have it:((s.heap.push { cls:=.type "list",data:=.seq ([]:List Value).toArray }).push V).IsKeyIter (s.heap.push { cls:=.type "list",data:=.seq ([]:List Value).toArray }).objs.size a 0 es.size ep:=⟨_,Heap.get?_push_size _ (by rw[<- O];rfl),by rw[<- O],by rw[<- O];rfl⟩
 generalize hH:s.heap.push { cls:=.type "list",data:=.seq ([]:List Value).toArray }=H at it M Z ⊢
 have W:H.objs.size=s.heap.objs.size+1:=by rw[<- hH,Heap.size_push]
 have j:(H.push V).get? s.heap.objs.size=some { cls:=.type "list",data:=.seq ([]:List Value).toArray }:=Heap.get?_push_of_some _ (hH ▸ Heap.get?_push_size _ rfl)
 show wpAny _ A.in1 (Builtin.List.listTouch (.ref s.heap.objs.size) >>= _) _ _ _
 refine Bx ?_
 show wpAny _ A.in1 (updateSeq s.heap.objs.size (·.push .none) >>= λ _=>updateSeq s.heap.objs.size (·.pop)) _ _ _
 refine Bx (DS j rfl ?_)
 have q:=Heap.get?_update_self (Obj.mapSeq (·.push Value.none)) j rfl
 refine DS q rfl ?_
 have J:=Heap.get?_update_self (Obj.mapSeq (·.pop)) q rfl
 have U:∀ b o,b≠s.heap.objs.size->(H.push V).get? b=some o->(((H.push V).update s.heap.objs.size (Obj.mapSeq (·.push Value.none))).update s.heap.objs.size (Obj.mapSeq (·.pop))).get? b=some o:=
  λ b o hb e=>(Heap.get?_update_other _ _ (Ne.symm hb)).trans ((Heap.get?_update_other _ _ (Ne.symm hb)).trans e)
 have nI:s.heap.objs.size≠H.objs.size:=by lia
 have a3:s.heap.objs.size∉[H.objs.size,a]:=by simp only[BF,BM,Ca,DW];exact⟨nI,ne⟩
 refine BA ⟨Dm F.plain_extend_loop _,codeAny_extend_loopS (qw (A:=A.in1) hh H.objs.size a (BU (by rw[W];exact Dd la)) es ep).toS a1 _ a3 _ es.size 0 _ _ _ rfl (Cf _)
  ⟨it.at λ o e=>U _ o (Ne.symm nI) e,o,U _ o (Ne.symm ne) M,G⟩ J (ItemsOf.nil _) λ s' a6 c' hm a2 Y=>?_⟩
 obtain⟨h',g',d',a5,a4⟩:=s'
 obtain rfl:g'=s.gens:=hm.gens
 obtain rfl:d'=s.drawn:=hm.drawn
 obtain rfl:a4=s.os:=hm.os
 show wpAny _ A (load s.heap.objs.size >>= _) _ _ _
 refine Bx (wpAny_load a2 (BA ?_))
 rw[keys_eq Y]
 refine h h' a5 λ b o e=>hm.heap b o ?_ (U b o (BU (Heap.lt_size e)) (Heap.get?_push_of_some _ (hH ▸ Heap.get?_push_of_some _ e)))
 have:=Heap.lt_size e
 simp only[BF,BM,Ca,DW]
 exact⟨BU this,BU (by show b<H.objs.size;rw[W];exact Dd this)⟩
end
end PySem
namespace L2
open PySem PySem.Spec PyProof.Rows
section
variable {X:Cx}
noncomputable def mW (H:Hp) (kvs:List (List Key×V)) (bs:List Addr):Prop:=bs.length=kvs.length/\∀ (i:Nat) b k v,bs[i]? = some b->kvs[i]? = some (k,v)->H b=some (.tup (k.map kV))
noncomputable def wL:List V->Hp->VK->Prop:=λ xs H Q=>∃ a kvs,xs=[.ref a]/\H a=some (.dT kvs)/\kvs.length<128/\∀ bs,mW H kvs bs->(∀ v∈bs.map V.ref,Nm H v)/\((bs.map V.ref).map (rk3 H)).Nodup /\
 ∀ l ls',H l=none->ls'.Perm (bs.map V.ref)->ls'.Pairwise (λ u v=>rk3 H u<rk3 H v)->Q (.ref l) (upd H l (.lst ls'))
theorem mX (U:X.calm=true):cx X (.builtin "sorted") wL:=by
 intro pins s σ H xs us Q I r h
 obtain⟨a,kvs,rfl,ha,O,h⟩:=h
 obtain⟨u,rfl,rx⟩:=vals1 r
 cases rx
 obtain⟨z,y,xs,r,o,es,ep,g1,g2,g3,g4,g5⟩:=(show bo X.prog X.w H s.heap a (.dT kvs) from I.hok a _ ha)
 have hn:es.size=kvs.length:=by rw[DC g4];exact(Paired.length r).symm
 have hx:xs.length=kvs.length:=(Paired.length r).symm
 have ek:es.toList.map (·.key)=(xs.map λ q=>q.2.1).map Value.ref:=by
  refine DG λ i=>?_
  rw[BC,BC,BC,Cj,entry_at g4 i]
  cases xs[i]? <;> rfl
 have ks:mW H kvs (xs.map λ q=>q.2.1):=by
  refine⟨by rw[BB,hx],λ i b k v j hk=>?_⟩
  obtain⟨q,W,q1,q2,q3⟩:∃ q,xs[i]? = some q/\k=q.1/\H q.2.1=some (.tup (k.map kV))/\RelV v q.2.2:=by
   obtain⟨q,W,h⟩:=Paired.n9 (i:=i) r hk
   exact⟨q,W,h⟩
  rw[BC,W] at j
  cases j
  exact q2
 obtain⟨nm,nd,q⟩:=h _ ks
 generalize xs.map (λ q=>q.2.1)=bs at ek ks nm nd q
 have lb:bs.length=kvs.length:=ks.1
 refine Tim.ir (mm (by simpa using I.ok.hd U) y g1 g2 g3 (by rw[hn,DE];lia) λ h1 tk kp=>?_)
 rw[ek]
 have M:Inv X pins σ H { s with heap:=h1,toks:=tk }:=I.kept kp
 have F:∀ b∈bs,Tim.cn h1 (.ref b)=rk3 H (.ref b)/\∃ x y z,Tim.Tri h1 (.ref b) x y z:=λ b j=>by
  obtain⟨b',x,y,z,e,J,qq⟩:=nm _ (BX j)
  cases e
  have T:=nH M.hok J qq
  exact⟨by rw[T.rk];unfold rk3;simp only[J],x,y,z,T⟩
 refine⟨λ v hv=>?_,?_,by rw[BB,lb];exact O,λ a1 h' c Z e pm so=>?_⟩
 ·obtain⟨b,j,rfl⟩:=BV.mp hv
  exact(F b j).2
 ·rw[Cs] at nd ⊢
  exact(Cr (f:=Tim.cn h1 ∘ Value.ref) (g:=rk3 H ∘ V.ref) λ b j=>(F b j).1) ▸ nd
 ·obtain⟨L,J,G⟩:=jH pm
  have Y:(L.map V.ref).length<=sizeLine:=by
   rw[BB,G.length_eq,lb,DE];lia
  refine⟨.ref _,_,M.laid (t':=tk) Z (Nat.le_refl _) (show bo X.prog X.w _ h' _ (.lst (L.map V.ref)) from ⟨Y,a1.toList,c,by rw[J];exact gF L,by rw[e]⟩),rfl,q _ (L.map V.ref) M.fresh (G.map _) ?_⟩
  rw[J,C1] at so
  rw[C1]
  refine so.imp_of_mem λ{b c} j U lt=>?_
  rw[<- (F b (G.mem_iff.mp j)).1,<- (F c (G.mem_iff.mp U)).1];exact lt
end
section
variable {X:Cx}
noncomputable def zl:List V->Hp->VK->Prop:=λ xs H Q=>∃ j:Int,xs=[.int j]/\∀ l,H l=none->Q (.ref l) (upd H l (.rng 0 j))
theorem qp:cx X (.type "range") zl:=by
 intro pins s σ H xs G Q I r h
 obtain⟨j,rfl,q⟩:=h
 obtain⟨u,rfl,F⟩:=vals1 r
 obtain⟨t,rfl⟩:=F
 refine call_range_1 ⟨.ref s.heap.objs.size,_,I.laid (λ b o e=>Heap.get?_push_of_some _ e) (Nat.le_refl _) (show bo X.prog X.w _ _ _ (.rng 0 j) from ⟨_,_,_,Heap.get?_push_size _ rfl⟩),rfl,q _ I.fresh⟩
end
end L2
namespace B
open PySem L2
noncomputable def top (i:Nat):Stmt:=PySem.Challenge.pw_backline_k33_whole_falls_together.main.body.getD i (.Pass ⟨0,0,0,0⟩)
noncomputable abbrev yQ:Stmt:=top 11
noncomputable abbrev yX:Stmt:=inClass (top 13) 0
noncomputable abbrev zO:Stmt:=top 14
noncomputable abbrev yF:Stmt:=inClass (top 28) 0
noncomputable abbrev yT:Stmt:=inClass (top 28) 1
noncomputable abbrev yu:Stmt:=inClass (top 30) 0
noncomputable abbrev zm:Stmt:=inClass (top 31) 0
noncomputable abbrev xJ:Stmt:=inClass (top 31) 1
noncomputable abbrev z9:Stmt:=inClass (top 31) 2
noncomputable abbrev zK:Stmt:=inClass (top 15) 0
noncomputable abbrev Ah:Stmt:=inClass (top 15) 1
noncomputable abbrev AX:Stmt:=inClass (top 15) 6
noncomputable abbrev Ar:Stmt:=inClass (top 15) 7
noncomputable abbrev yD:Stmt:=inClass (top 15) 8
noncomputable abbrev zR:Stmt:=inClass (top 15) 3
noncomputable abbrev Ao:Stmt:=inClass (top 15) 4
noncomputable abbrev yW:Stmt:=top 17
noncomputable abbrev zX:Stmt:=inClass (top 18) 14
noncomputable abbrev yI:Stmt:=inClass (top 18) 17
noncomputable abbrev A4:Stmt:=inClass (top 18) 15
noncomputable abbrev zt:Stmt:=inClass (top 18) 18
noncomputable abbrev zq:Stmt:=top 33
noncomputable abbrev yc:Stmt:=top 34
noncomputable abbrev xx:Stmt:=top 35
noncomputable abbrev qo:Expr:=w6 (inDef (top 39) 3)
noncomputable abbrev Ay:Stmt:=inClass (top 18) 16
noncomputable abbrev z8:Stmt:=inClass (top 18) 1
noncomputable abbrev yE:Stmt:=inClass (top 18) 2
noncomputable abbrev zT:Stmt:=inClass (top 18) 3
noncomputable abbrev zp:Stmt:=inClass (top 18) 4
noncomputable abbrev yr:Stmt:=inClass (top 18) 6
noncomputable abbrev xT:Stmt:=inClass (top 18) 7
noncomputable abbrev AA:Stmt:=inClass (top 18) 8
noncomputable abbrev yo:Stmt:=inClass (top 18) 0
noncomputable abbrev AM:Stmt:=top 8
noncomputable abbrev AK:Stmt:=top 9
noncomputable abbrev xA:Stmt:=top 36
noncomputable abbrev AO:Stmt:=top 37
noncomputable abbrev yM:Stmt:=top 38
noncomputable abbrev yn:Stmt:=top 39
noncomputable abbrev zw:Stmt:=inClass (top 15) 5
noncomputable abbrev AH:Stmt:=inClass (top 18) 5
noncomputable abbrev wY:Stmt:=inClass (top 18) 10
noncomputable abbrev yB:Stmt:=inClass (top 18) 11
noncomputable abbrev xC:Stmt:=top 20
noncomputable abbrev yJ:Stmt:=inClass (top 21) 0
noncomputable abbrev xi:Stmt:=inClass (top 21) 1
noncomputable abbrev y7:Stmt:=inClass (top 21) 2
noncomputable abbrev ya:Stmt:=inClass (top 21) 3
noncomputable abbrev zV:Stmt:=inClass (top 21) 4
noncomputable abbrev xX:Stmt:=top 22
noncomputable abbrev yH:Stmt:=top 23
noncomputable abbrev xf:Stmt:=top 24
noncomputable abbrev xj:Stmt:=top 40
noncomputable abbrev u9:Stmt:=top 41
theorem yG:aQ ["value"] ["value"] (aM yQ):=⟨rfl,rfl,rfl,by decide +kernel,rfl,by decide +kernel,by decide +kernel⟩
theorem yy:aQ ["self","used","state","sent","said"] ["self","used","state","sent","said"] (aM yX):=⟨rfl,rfl,rfl,by decide +kernel,rfl,by decide +kernel,by decide +kernel⟩
theorem Av:aQ ["event"] ["event"] (aM zO):=⟨rfl,rfl,rfl,by decide +kernel,rfl,by decide +kernel,by decide +kernel⟩
theorem yV:aQ ["self","down","here"] ["self","down","here"] (aM yF):=⟨rfl,rfl,rfl,by decide +kernel,rfl,by decide +kernel,by decide +kernel⟩
theorem AF:aQ ["self","down","here"] ["self","down","here"] (aM yT):=⟨rfl,rfl,rfl,by decide +kernel,rfl,by decide +kernel,by decide +kernel⟩
theorem zM:aQ ["self","down","here"] ["self","down","here"] (aM yu):=⟨rfl,rfl,rfl,by decide +kernel,rfl,by decide +kernel,by decide +kernel⟩
theorem zh:aQ ["self","size"] ["self","size"] (aM zm):=⟨rfl,rfl,rfl,by decide +kernel,rfl,by decide +kernel,by decide +kernel⟩
theorem AW:aQ ["self","down","here"] ["self","down","here"] (aM xJ):=⟨rfl,rfl,rfl,by decide +kernel,rfl,by decide +kernel,by decide +kernel⟩
theorem zZ:aQ ["self","down","here"] ["self","down","here"] (aM z9):=⟨rfl,rfl,rfl,by decide +kernel,rfl,by decide +kernel,by decide +kernel⟩
theorem xm:aQ ["self","start","habit"] ["self","start","habit"] (aM zK):=⟨rfl,rfl,rfl,by decide +kernel,rfl,by decide +kernel,by decide +kernel⟩
theorem xD:aQ ["self"] ["self"] (aM Ah):=⟨rfl,rfl,rfl,by decide +kernel,rfl,by decide +kernel,by decide +kernel⟩
theorem Aw:aQ ["self","place"] ["self","place"] (aM AX):=⟨rfl,rfl,rfl,by decide +kernel,rfl,by decide +kernel,by decide +kernel⟩
theorem zQ:aQ ["self","place"] ["self","place"] (aM Ar):=⟨rfl,rfl,rfl,by decide +kernel,rfl,by decide +kernel,by decide +kernel⟩
theorem xK:aQ ["self","place"] ["self","place"] (aM yD):=⟨rfl,rfl,rfl,by decide +kernel,rfl,by decide +kernel,by decide +kernel⟩
theorem An:aQ ["self","event"] ["self","event"] (aM zR):=⟨rfl,rfl,rfl,by decide +kernel,rfl,by decide +kernel,by decide +kernel⟩
theorem zx:aQ ["self"] ["self"] (aM Ao):=⟨rfl,rfl,rfl,by decide +kernel,rfl,by decide +kernel,by decide +kernel⟩
theorem AI:aQ ["value"] ["value"] (aM yW):=⟨rfl,rfl,rfl,by decide +kernel,rfl,by decide +kernel,by decide +kernel⟩
theorem yt:aQ ["self","hand"] ["self","hand"] (aM zX):=⟨rfl,rfl,rfl,by decide +kernel,rfl,by decide +kernel,by decide +kernel⟩
theorem ym:aQ ["self","hand","row"] ["self","hand","row"] (aM yI):=⟨rfl,rfl,rfl,by decide +kernel,rfl,by decide +kernel,by decide +kernel⟩
theorem uJ:aQ ["self","hand","name","way"] ["self","hand","name"] (aM A4):=⟨rfl,rfl,rfl,by decide +kernel,rfl,by decide +kernel,by decide +kernel⟩
theorem lU:aQ ["self","sender","place","letters","k","letter","name","way"] ["self","sender","place","letters"] (aM zt):=⟨rfl,rfl,rfl,by decide +kernel,rfl,by decide +kernel,by decide +kernel⟩
theorem zd:aQ ["_law_script","_law_k"] ["_law_script","_law_k"] (aM zq):=⟨rfl,rfl,rfl,by decide +kernel,rfl,by decide +kernel,by decide +kernel⟩
theorem jX:aQ ["_law_cell","_law_k","_law_base","_law_rest","_law_j","_law_number"] ["_law_cell","_law_k","_law_base"] (aM yc):=⟨rfl,rfl,rfl,by decide +kernel,rfl,by decide +kernel,by decide +kernel⟩
theorem jJ:aQ ["_law_cell","_law_many","_law_hand","_law_state","_law_word","_law_at","_law_entry","_law_letters","_law_k"] ["_law_cell","_law_many","_law_hand","_law_state","_law_word"] (aM xx):=⟨rfl,rfl,rfl,by decide +kernel,rfl,by decide +kernel,by decide +kernel⟩
theorem qP:i3 ["_law_hand","_law_state","_law_word","_law_cell","_law_many"] ["_law_hand","_law_state","_law_word"] ["_law_cell","_law_many"] (cA qo):=⟨rfl,rfl,rfl,by decide +kernel,rfl,rfl,by decide,by decide +kernel,by decide +kernel,by decide +kernel,by decide +kernel⟩
theorem xH:∀ x∈(["_law_cell","_law_many"]:List Str),(aM (top 39)).names.lookup x=some .cell:=by decide +kernel
theorem nQ:aQ ["self","hand","name","word","thread","led","event"] ["self","hand","name","word"] (aM Ay):=⟨rfl,rfl,rfl,by decide +kernel,rfl,by decide +kernel,by decide +kernel⟩
theorem AD:aQ ["self","hand"] ["self","hand"] (aM z8):=⟨rfl,rfl,rfl,by decide +kernel,rfl,by decide +kernel,by decide +kernel⟩
theorem Bc:aQ ["self","hand","name"] ["self","hand","name"] (aM yE):=⟨rfl,rfl,rfl,by decide +kernel,rfl,by decide +kernel,by decide +kernel⟩
theorem xB:aQ ["self","hand"] ["self","hand"] (aM zT):=⟨rfl,rfl,rfl,by decide +kernel,rfl,by decide +kernel,by decide +kernel⟩
theorem zI:aQ ["self"] ["self"] (aM zp):=⟨rfl,rfl,rfl,by decide +kernel,rfl,by decide +kernel,by decide +kernel⟩
theorem xO:aQ ["self"] ["self"] (aM yr):=⟨rfl,rfl,rfl,by decide +kernel,rfl,by decide +kernel,by decide +kernel⟩
theorem zu:aQ ["self"] ["self"] (aM xT):=⟨rfl,rfl,rfl,by decide +kernel,rfl,by decide +kernel,by decide +kernel⟩
theorem Ag:aQ ["self"] ["self"] (aM AA):=⟨rfl,rfl,rfl,by decide +kernel,rfl,by decide +kernel,by decide +kernel⟩
theorem A5:aQ ["self","does","starts","habits","ordered"] ["self","does","starts","habits","ordered"] (aM yo):=⟨rfl,rfl,rfl,by decide +kernel,rfl,by decide +kernel,by decide +kernel⟩
theorem xg:aQ ["line","name"] ["line","name"] (aM AM):=⟨rfl,rfl,rfl,by decide +kernel,rfl,by decide +kernel,by decide +kernel⟩
theorem xl:aQ ["line","user","place"] ["line","user","place"] (aM AK):=⟨rfl,rfl,rfl,by decide +kernel,rfl,by decide +kernel,by decide +kernel⟩
theorem nW:aQ ["_law_cell","_law_many","_law_found","_law_k","_law_kind"] ["_law_cell","_law_many"] (aM xA):=⟨rfl,rfl,rfl,by decide +kernel,rfl,by decide +kernel,by decide +kernel⟩
theorem iy:aQ ["_law_loom_here","_law_found","_law_sent","_law_ways","_law_name","_law_way","_law_hand"] ["_law_loom_here"] (aM AO):=⟨rfl,rfl,rfl,by decide +kernel,rfl,by decide +kernel,by decide +kernel⟩
theorem oG:aQ ["_law_loom_here","_law_cell","_law_size","_law_k","_law_deeds_here","_law_deed"] ["_law_loom_here","_law_cell","_law_size"] (aM yM):=⟨rfl,rfl,rfl,by decide +kernel,rfl,by decide +kernel,by decide +kernel⟩
theorem jc:aQ ["_law_script","_law_first","_law_cell","_law_many","_law_does","_law_habits_here","_law_loom_here"] ["_law_script"] (aM yn):=⟨rfl,rfl,rfl,by decide +kernel,rfl,by decide +kernel,by decide +kernel⟩
theorem uF:aQ ["self","written"] ["self"] (aM zw):=⟨rfl,rfl,rfl,by decide +kernel,rfl,by decide +kernel,by decide +kernel⟩
theorem zB:aQ ["self"] ["self"] (aM AH):=⟨rfl,rfl,rfl,by decide +kernel,rfl,by decide +kernel,by decide +kernel⟩
theorem zS:aQ ["self","hand"] ["self","hand"] (aM wY):=⟨rfl,rfl,rfl,by decide +kernel,rfl,by decide +kernel,by decide +kernel⟩
theorem z0:aQ ["self"] ["self"] (aM yB):=⟨rfl,rfl,rfl,by decide +kernel,rfl,by decide +kernel,by decide +kernel⟩
theorem lK:aQ ["loom","fallen","allowed","hand","here","points"] ["loom","fallen"] (aM xC):=⟨rfl,rfl,rfl,by decide +kernel,rfl,by decide +kernel,by decide +kernel⟩
theorem yS:aQ ["self","loom","fallen"] ["self","loom","fallen"] (aM yJ):=⟨rfl,rfl,rfl,by decide +kernel,rfl,by decide +kernel,by decide +kernel⟩
theorem AU:aQ ["self"] ["self"] (aM xi):=⟨rfl,rfl,rfl,by decide +kernel,rfl,by decide +kernel,by decide +kernel⟩
theorem uD:aQ ["self","name","line"] ["self","name"] (aM y7):=⟨rfl,rfl,rfl,by decide +kernel,rfl,by decide +kernel,by decide +kernel⟩
theorem y6:aQ ["self","name"] ["self","name"] (aM ya):=⟨rfl,rfl,rfl,by decide +kernel,rfl,by decide +kernel,by decide +kernel⟩
theorem ux:aQ ["self","name","points"] ["self","name"] (aM zV):=⟨rfl,rfl,rfl,by decide +kernel,rfl,by decide +kernel,by decide +kernel⟩
theorem rG:aQ ["loom","used","name"] ["loom"] (aM xX):=⟨rfl,rfl,rfl,by decide +kernel,rfl,by decide +kernel,by decide +kernel⟩
theorem rr:aQ ["used","line","hand","names"] ["used","line"] (aM yH):=⟨rfl,rfl,rfl,by decide +kernel,rfl,by decide +kernel,by decide +kernel⟩
theorem i9:aQ ["loom","fallen","descent","used","paper","sender","name"] ["loom","fallen"] (aM xf):=⟨rfl,rfl,rfl,by decide +kernel,rfl,by decide +kernel,by decide +kernel⟩
theorem oZ:aQ ["_law_cell","_law_many","_law_found","_law_k","_law_hand"] ["_law_cell","_law_many"] (aM xj):=⟨rfl,rfl,rfl,by decide +kernel,rfl,by decide +kernel,by decide +kernel⟩
theorem cR:aQ ["_law_script","_law_loom_here","_law_places","_law_before","_law_one","_law_other","_law_first","_law_second","_law_both","_law_whole","_law_hand","_law_habits_here","_law_sure"] ["_law_script"] (aM u9):=⟨rfl,rfl,rfl,by decide +kernel,rfl,by decide +kernel,by decide +kernel⟩
theorem xP:bootBuiltins "all" = some (.builtin "all"):=by decide +kernel
theorem vI:bootBuiltins "bool" = some (.type "bool"):=by decide +kernel
theorem rZ:bootBuiltins "dict" = some (.type "dict"):=by decide +kernel
theorem ve:bootBuiltins "int" = some (.type "int"):=by decide +kernel
theorem dg:bootBuiltins "isinstance" = some (.builtin "isinstance"):=by decide +kernel
theorem lA:bootBuiltins "len" = some (.builtin "len"):=by decide +kernel
theorem nB:bootBuiltins "list" = some (.type "list"):=by decide +kernel
theorem vy:bootBuiltins "min" = some (.builtin "min"):=by decide +kernel
theorem oS:bootBuiltins "range" = some (.type "range"):=by decide +kernel
theorem vi:bootBuiltins "set" = some (.type "set"):=by decide +kernel
theorem iA:bootBuiltins "sorted" = some (.builtin "sorted"):=by decide +kernel
theorem oV:bootBuiltins "tuple" = some (.type "tuple"):=by decide +kernel
noncomputable def yz (K:W.Frag) (c p:Addr):Prop:=∃ oq oe vq sq,K.lookup c=some ⟨oq,oe,.fields vq,sq⟩/\vq[11]? = some (.ref p)
set_option genInjectivity false in
set_option genSizeOf false in
structure Adr where
 c_Bundle:Addr
 c_Descent:Addr
 c_Each:Addr
 c_Event:Addr
 c_Loom:Addr
 c_Never:Addr
 c_NoPoint:Addr
 c_NoSize:Addr
 c_Thread:Addr
 f_ar:Addr
 f_as:Addr
 f_cu:Addr
 f_cc:Addr
 f_cz:Addr
 f_bp:Addr
 f_bq:Addr
 f_cl:Addr
 f_bb:Addr
 f_ay:Addr
 f_aq:Addr
 f_ak:Addr
 f_al:Addr
 f_da:Addr
 f_co:Addr
 f_cw:Addr
 f_cx:Addr
 f_ce:Addr
 f_br:Addr
 f_bt:Addr
 f_cn:Addr
 f_ag:Addr
 f_ah:Addr
 f_bu:Addr
 f_cq:Addr
 f_am:Addr
 f_bc:Addr
 f_be:Addr
 f_aw:Addr
 f_cm:Addr
 f_au:Addr
 f_bf:Addr
 f_an:Addr
 f_ac:Addr
 f_ai:Addr
 f_bg:Addr
 f_bh:Addr
 f_aj:Addr
 f_az:Addr
 f_ae:Addr
 f_ab:Addr
 f_af:Addr
 f_bo:Addr
 f_ad:Addr
 f_aa:Addr
 f_bd:Addr
 f_cd:Addr
 f_cv:Addr
 f_bs:Addr
 f_cf:Addr
 f_cg:Addr
 f_cp:Addr
 f_bv:Addr
 f_law:Addr
 cd_cp:Addr
 tb_cp:Addr
 ts:List Addr
 fd_cu:FuncData
 fd_cc:FuncData
 fd_cz:FuncData
 fd_ae:FuncData
 fd_ab:FuncData
 fd_af:FuncData
 fd_bo:FuncData
 fd_ad:FuncData
 fd_aa:FuncData
 fd_bp:FuncData
 fd_bq:FuncData
 fd_aq:FuncData
 fd_ak:FuncData
 fd_al:FuncData
 fd_cl:FuncData
 fd_bb:FuncData
 fd_da:FuncData
 fd_am:FuncData
 fd_aw:FuncData
 fd_bc:FuncData
 fd_cm:FuncData
 fd_bd:FuncData
 fd_cd:FuncData
 fd_cv:FuncData
 fd_be:FuncData
 fd_cw:FuncData
 fd_cx:FuncData
 fd_ce:FuncData
 fd_br:FuncData
 fd_cn:FuncData
 fd_ag:FuncData
 fd_ah:FuncData
 fd_co:FuncData
 fd_ar:FuncData
 fd_as:FuncData
 fd_bs:FuncData
 fd_cf:FuncData
 fd_cg:FuncData
 fd_cp:FuncData
 fd_ay:FuncData
 fd_bt:FuncData
 fd_bu:FuncData
 fd_cq:FuncData
 fd_au:FuncData
 fd_bf:FuncData
 fd_an:FuncData
 fd_ac:FuncData
 fd_ai:FuncData
 fd_bg:FuncData
 fd_bh:FuncData
 fd_aj:FuncData
 fd_az:FuncData
 fd_bv:FuncData
 fd_law:FuncData
set_option genInjectivity false in
set_option genSizeOf false in
structure Txt (K:W.Frag) (mg:Str->Option Value) (t:Adr):Prop where
 no_isinstance:mg "isinstance" = none
 no_bool:mg "bool" = none
 no_int:mg "int" = none
 na_cj:bG K t.c_Event "used"
 cl_Event:Cls K t.c_Event
 na_bx:bG K t.c_Event "state"
 na_ci:bG K t.c_Event "sent"
 no_tuple:mg "tuple" = none
 na_ch:bG K t.c_Event "said"
 no_list:mg "list" = none
 mk_Event:Mk K t.c_Event t.f_cc
 mg_Event:mg "Event" = some (.ref t.c_Event)
 b_cc:Binds K t.fd_cc ["self","used","state","sent","said"] []
 mg_cu:mg "is_whole" = some (.ref t.f_cu)
 kp_cu:W.keepIn K (.ref t.f_cu)=true
 b_cu:Binds K t.fd_cu ["value"] []
 mv_SMALLEST_SIZE:∃ t,mg "SMALLEST_SIZE" = some (.int 1 t)
 mv_GREATEST_SIZE:∃ t,mg "GREATEST_SIZE" = some (.int 20 t)
 mg_NoSize:mg "NoSize" = some (.ref t.c_NoSize)
 ex_NoSize:tJ K t.c_NoSize
 na_bw:bG K t.c_Bundle "size"
 cl_Bundle:Cls K t.c_Bundle
 na_bk:bG K t.c_Thread "first"
 cl_Thread:Cls K t.c_Thread
 na_bn:bG K t.c_Thread "habit"
 na_ca:bG K t.c_Thread "done"
 na_ap:bG K t.c_Thread "writings"
 na_cb:bG K t.c_Thread "down"
 no_len:mg "len" = none
 me_bq:Meth K t.c_Thread "here" t.f_bq
 b_bq:Binds K t.fd_bq ["self"] []
 me_aq:Meth K t.c_Thread "is_here" t.f_aq
 b_aq:Binds K t.fd_aq ["self","place"] []
 me_ak:Meth K t.c_Thread "is_point" t.f_ak
 b_ak:Binds K t.fd_ak ["self","place"] []
 mg_NoPoint:mg "NoPoint" = some (.ref t.c_NoPoint)
 ex_NoPoint:tJ K t.c_NoPoint
 mg_cz:mg "copy_of" = some (.ref t.f_cz)
 kp_cz:W.keepIn K (.ref t.f_cz)=true
 b_cz:Binds K t.fd_cz ["event"] []
 me_ad:Meth K t.c_Bundle "down_by_deed" t.f_ad
 b_ad:Binds K t.fd_ad ["self","down","here"] []
 cl_Each:Cls K t.c_Each
 me_af:Meth K t.c_Each "down_by_deed" t.f_af
 b_af:Binds K t.fd_af ["self","down","here"] []
 cl_Never:Cls K t.c_Never
 me_Never_down_by_deed:Meth K t.c_Never "down_by_deed" t.f_ae
 b_ae:Binds K t.fd_ae ["self","down","here"] []
 me_aa:Meth K t.c_Bundle "down_by_writing" t.f_aa
 b_aa:Binds K t.fd_aa ["self","down","here"] []
 me_Each_down_by_writing:Meth K t.c_Each "down_by_writing" t.f_ab
 b_ab:Binds K t.fd_ab ["self","down","here"] []
 me_Never_down_by_writing:Meth K t.c_Never "down_by_writing" t.f_ab
 no_all:mg "all" = none
 na_cs:bG K t.c_Loom "many"
 cl_Loom:Cls K t.c_Loom
 na_bj:bG K t.c_Loom "threads"
 na_cy:bG K t.c_Loom "log"
 mg_da:mg "is_name" = some (.ref t.f_da)
 kp_da:W.keepIn K (.ref t.f_da)=true
 b_da:Binds K t.fd_da ["value"] []
 na_ct:bG K t.c_Loom "ways"
 no_min:mg "min" = none
 na_bi:bG K t.c_Loom "ordered"
 no_enumerate:mg "enumerate" = none
 na_bz:bG K t.c_Loom "posted"
 na_ck:bG K t.c_Loom "taken"
 no_range:mg "range" = none
 mg_cd:mg "_law_digit" = some (.ref t.f_cd)
 kp_cd:W.keepIn K (.ref t.f_cd)=true
 b_cd:Binds K t.fd_cd ["_law_cell","_law_k","_law_base"] []
 mg_cv:mg "_law_led" = some (.ref t.f_cv)
 kp_cv:W.keepIn K (.ref t.f_cv)=true
 b_cv:Binds K t.fd_cv ["_law_cell","_law_many","_law_hand","_law_state","_law_word"] []
 na_cr:bG K t.c_Loom "does"
 me_al:Meth K t.c_Thread "state_at" t.f_al
 b_al:Binds K t.fd_al ["self","place"] []
 me_cl:Meth K t.c_Thread "do" t.f_cl
 b_cl:Binds K t.fd_cl ["self","event"] []
 me_cm:Meth K t.c_Loom "post" t.f_cm
 b_cm:Binds K t.fd_cm ["self","sender","place","letters"] []
 me_am:Meth K t.c_Loom "check_hand" t.f_am
 b_am:Binds K t.fd_am ["self","hand"] []
 me_be:Meth K t.c_Loom "do_deed" t.f_be
 b_be:Binds K t.fd_be ["self","hand","name","word"] []
 me_aw:Meth K t.c_Loom "note_row" t.f_aw
 b_aw:Binds K t.fd_aw ["self","hand","row"] []
 me_bc:Meth K t.c_Loom "may_use" t.f_bc
 b_bc:Binds K t.fd_bc ["self","hand","name"] []
 me_bb:Meth K t.c_Thread "write" t.f_bb
 b_bb:Binds K t.fd_bb ["self"] []
 no_sorted:mg "sorted" = none
 no_dict:mg "dict" = none
 no_zip:mg "zip" = none
 mk_Thread:Mk K t.c_Thread t.f_bp
 mg_Thread:mg "Thread" = some (.ref t.c_Thread)
 b_bp:Binds K t.fd_bp ["self","start","habit"] []
 mk_Bundle:Mk K t.c_Bundle t.f_bo
 mg_Bundle:mg "Bundle" = some (.ref t.c_Bundle)
 b_bo:Binds K t.fd_bo ["self","size"] []
 mk_Each:MkO K t.c_Each
 mg_Each:mg "Each" = some (.ref t.c_Each)
 mk_Never:MkO K t.c_Never
 mg_Never:mg "Never" = some (.ref t.c_Never)
 me_ag:Meth K t.c_Loom "letters_sent" t.f_ag
 b_ag:Binds K t.fd_ag ["self"] []
 me_cn:Meth K t.c_Loom "road" t.f_cn
 b_cn:Binds K t.fd_cn ["self"] []
 mg_cf:mg "_law_deeds" = some (.ref t.f_cf)
 kp_cf:W.keepIn K (.ref t.f_cf)=true
 b_cf:Binds K t.fd_cf ["_law_loom_here"] []
 me_cx:Meth K t.c_Loom "use" t.f_cx
 b_cx:Binds K t.fd_cx ["self","hand","name"] []
 me_cw:Meth K t.c_Loom "own" t.f_cw
 b_cw:Binds K t.fd_cw ["self","hand"] []
 me_ce:Meth K t.c_Loom "write" t.f_ce
 b_ce:Binds K t.fd_ce ["self","hand"] []
 mg_bd:mg "_law_cell_at" = some (.ref t.f_bd)
 kp_bd:W.keepIn K (.ref t.f_bd)=true
 b_bd:Binds K t.fd_bd ["_law_script","_law_k"] []
 mg_bs:mg "_law_habits" = some (.ref t.f_bs)
 kp_bs:W.keepIn K (.ref t.f_bs)=true
 b_bs:Binds K t.fd_bs ["_law_cell","_law_many"] []
 mk_Loom:Mk K t.c_Loom t.f_co
 mg_Loom:mg "Loom" = some (.ref t.c_Loom)
 b_co:Binds K t.fd_co ["self","does","starts","habits","ordered"] []
 mg_cg:mg "_law_woven" = some (.ref t.f_cg)
 kp_cg:W.keepIn K (.ref t.f_cg)=true
 b_cg:Binds K t.fd_cg ["_law_loom_here","_law_cell","_law_size"] []
 no_set:mg "set" = none
 me_ay:Meth K t.c_Thread "points" t.f_ay
 b_ay:Binds K t.fd_ay ["self"] []
 me_br:Meth K t.c_Loom "places" t.f_br
 b_br:Binds K t.fd_br ["self"] []
 me_bu:Meth K t.c_Loom "points" t.f_bu
 b_bu:Binds K t.fd_bu ["self","hand"] []
 na_av:bG K t.c_Descent "posted"
 cl_Descent:Cls K t.c_Descent
 na_ba:bG K t.c_Descent "taken"
 me_ah:Meth K t.c_Loom "letters_used" t.f_ah
 b_ah:Binds K t.fd_ah ["self"] []
 na_ao:bG K t.c_Descent "allowed"
 mg_au:mg "allowed_points" = some (.ref t.f_au)
 kp_au:W.keepIn K (.ref t.f_au)=true
 b_au:Binds K t.fd_au ["loom","fallen"] []
 me_an:Meth K t.c_Descent "reached" t.f_an
 b_an:Binds K t.fd_an ["self"] []
 mg_ar:mg "is_sent_within" = some (.ref t.f_ar)
 kp_ar:W.keepIn K (.ref t.f_ar)=true
 b_ar:Binds K t.fd_ar ["line","name"] []
 mg_as:mg "is_used_within" = some (.ref t.f_as)
 kp_as:W.keepIn K (.ref t.f_as)=true
 b_as:Binds K t.fd_as ["line","user","place"] []
 mk_Descent:Mk K t.c_Descent t.f_bf
 mg_Descent:mg "Descent" = some (.ref t.c_Descent)
 b_bf:Binds K t.fd_bf ["self","loom","fallen"] []
 mg_bh:mg "used_of_each" = some (.ref t.f_bh)
 kp_bh:W.keepIn K (.ref t.f_bh)=true
 b_bh:Binds K t.fd_bh ["loom"] []
 mg_aj:mg "sender_gone_back" = some (.ref t.f_aj)
 kp_aj:W.keepIn K (.ref t.f_aj)=true
 b_aj:Binds K t.fd_aj ["used","line"] []
 me_ac:Meth K t.c_Descent "is_broken_by" t.f_ac
 b_ac:Binds K t.fd_ac ["self","name"] []
 me_ai:Meth K t.c_Descent "can_step" t.f_ai
 b_ai:Binds K t.fd_ai ["self","name"] []
 me_bg:Meth K t.c_Descent "step" t.f_bg
 b_bg:Binds K t.fd_bg ["self","name"] []
 mg_cp:mg "_law_loom" = some (.ref t.f_cp)
 kp_cp:W.keepIn K (.ref t.f_cp)=true
 b_cp:Binds K t.fd_cp ["_law_script"] []
 me_bt:Meth K t.c_Loom "states" t.f_bt
 b_bt:Binds K t.fd_bt ["self"] []
 me_cq:Meth K t.c_Loom "rows" t.f_cq
 b_cq:Binds K t.fd_cq ["self"] []
 mg_bv:mg "_law_fallen" = some (.ref t.f_bv)
 kp_bv:W.keepIn K (.ref t.f_bv)=true
 b_bv:Binds K t.fd_bv ["_law_cell","_law_many"] []
 mg_az:mg "greatest_line" = some (.ref t.f_az)
 kp_az:W.keepIn K (.ref t.f_az)=true
 b_az:Binds K t.fd_az ["loom","fallen"] []
 F_cu:Fun K "is_whole" "is_whole" yQ t.f_cu t.fd_cu
 F_cc:Fun K "__init__" "Event.__init__" yX t.f_cc t.fd_cc
 F_cz:Fun K "copy_of" "copy_of" zO t.f_cz t.fd_cz
 F_ae:Fun K "down_by_deed" "Habit.down_by_deed" yF t.f_ae t.fd_ae
 F_ab:Fun K "down_by_writing" "Habit.down_by_writing" yT t.f_ab t.fd_ab
 F_af:Fun K "down_by_deed" "Each.down_by_deed" yu t.f_af t.fd_af
 F_bo:Fun K "__init__" "Bundle.__init__" zm t.f_bo t.fd_bo
 F_ad:Fun K "down_by_deed" "Bundle.down_by_deed" xJ t.f_ad t.fd_ad
 F_aa:Fun K "down_by_writing" "Bundle.down_by_writing" z9 t.f_aa t.fd_aa
 F_bp:Fun K "__init__" "Thread.__init__" zK t.f_bp t.fd_bp
 F_bq:Fun K "here" "Thread.here" Ah t.f_bq t.fd_bq
 F_aq:Fun K "is_here" "Thread.is_here" AX t.f_aq t.fd_aq
 F_ak:Fun K "is_point" "Thread.is_point" Ar t.f_ak t.fd_ak
 F_al:Fun K "state_at" "Thread.state_at" yD t.f_al t.fd_al
 F_cl:Fun K "do" "Thread.do" zR t.f_cl t.fd_cl
 F_bb:Fun K "write" "Thread.write" Ao t.f_bb t.fd_bb
 F_da:Fun K "is_name" "is_name" yW t.f_da t.fd_da
 F_am:Fun K "check_hand" "Loom.check_hand" zX t.f_am t.fd_am
 F_aw:Fun K "note_row" "Loom.note_row" yI t.f_aw t.fd_aw
 F_bc:Fun K "may_use" "Loom.may_use" A4 t.f_bc t.fd_bc
 F_cm:Fun K "post" "Loom.post" zt t.f_cm t.fd_cm
 F_bd:Fun K "_law_cell_at" "_law_cell_at" zq t.f_bd t.fd_bd
 F_cd:Fun K "_law_digit" "_law_digit" yc t.f_cd t.fd_cd
 F_cv:Fun K "_law_led" "_law_led" xx t.f_cv t.fd_cv
 F_be:Fun K "do_deed" "Loom.do_deed" Ay t.f_be t.fd_be
 F_cw:Fun K "own" "Loom.own" z8 t.f_cw t.fd_cw
 F_cx:Fun K "use" "Loom.use" yE t.f_cx t.fd_cx
 F_ce:Fun K "write" "Loom.write" zT t.f_ce t.fd_ce
 F_br:Fun K "places" "Loom.places" zp t.f_br t.fd_br
 F_cn:Fun K "road" "Loom.road" yr t.f_cn t.fd_cn
 F_ag:Fun K "letters_sent" "Loom.letters_sent" xT t.f_ag t.fd_ag
 F_ah:Fun K "letters_used" "Loom.letters_used" AA t.f_ah t.fd_ah
 F_co:Fun K "__init__" "Loom.__init__" yo t.f_co t.fd_co
 F_ar:Fun K "is_sent_within" "is_sent_within" AM t.f_ar t.fd_ar
 F_as:Fun K "is_used_within" "is_used_within" AK t.f_as t.fd_as
 F_bs:Fun K "_law_habits" "_law_habits" xA t.f_bs t.fd_bs
 F_cf:Fun K "_law_deeds" "_law_deeds" AO t.f_cf t.fd_cf
 F_cg:Fun K "_law_woven" "_law_woven" yM t.f_cg t.fd_cg
 F_cp:Fun K "_law_loom" "_law_loom" yn t.f_cp t.fd_cp
 F_ay:Fun K "points" "Thread.points" zw t.f_ay t.fd_ay
 F_bt:Fun K "states" "Loom.states" AH t.f_bt t.fd_bt
 F_bu:Fun K "points" "Loom.points" wY t.f_bu t.fd_bu
 F_cq:Fun K "rows" "Loom.rows" yB t.f_cq t.fd_cq
 F_au:Fun K "allowed_points" "allowed_points" xC t.f_au t.fd_au
 F_bf:Fun K "__init__" "Descent.__init__" yJ t.f_bf t.fd_bf
 F_an:Fun K "reached" "Descent.reached" xi t.f_an t.fd_an
 F_ac:Fun K "is_broken_by" "Descent.is_broken_by" y7 t.f_ac t.fd_ac
 F_ai:Fun K "can_step" "Descent.can_step" ya t.f_ai t.fd_ai
 F_bg:Fun K "step" "Descent.step" zV t.f_bg t.fd_bg
 F_bh:Fun K "used_of_each" "used_of_each" xX t.f_bh t.fd_bh
 F_aj:Fun K "sender_gone_back" "sender_gone_back" yH t.f_aj t.fd_aj
 F_az:Fun K "greatest_line" "greatest_line" xf t.f_az t.fd_az
 F_bv:Fun K "_law_fallen" "_law_fallen" xj t.f_bv t.fd_bv
 F_law:Fun K "law" "law" u9 t.f_law t.fd_law
 b_law:Binds K t.fd_law ["_law_script"] []
 tab_cp:W.codeHdIn K t.cd_cp t.tb_cp=true
 tn_cp:K.lookup t.tb_cp=none
 tin_cp:t.tb_cp∈t.ts
 cde_cp:t.fd_cp.code=.ref t.cd_cp
 tall:∀ P∈t.ts,P∈[t.tb_cp]
 ik_Bundle:pS K t.c_Bundle
 ik_Each:pS K t.c_Each
 ik_Event:pS K t.c_Event
 ik_Never:pS K t.c_Never
 ke_b:W.kitOne K (.ref t.c_Bundle) (.ref t.c_Each)=some false
 ke_n:W.kitOne K (.ref t.c_Never) (.ref t.c_Each)=some false
 ki_b:W.kitOne K (.type "int") (.type "bool")=some false
 xk_NoPoint:mK K t.c_NoPoint
 tq_cp:yz K t.cd_cp t.tb_cp
structure x8 (mg:Str->Option Value) (base:Heap) (t:Adr):Prop where
 tb_cp:Tab mg base t.cd_cp t.tb_cp
section
variable {P:Program}{w:World}{K:W.Frag}{mg:Str->Option Value}{base:Heap}{t:Adr}
variable {ts:List Addr}
theorem sq (h:∀ r,r=b->ja a r D σ H):ja a b D σ H:=h b rfl
theorem sn (e:r=ja a b) (h:∀ r,r=b->ja a r D σ H):r D σ H:=by subst e;exact h b rfl
noncomputable def xZ:Sp:=λ vs H Q _=>∃ i,vs=[.int i]/\Q (.bl true) H
theorem kZ (T:Txt K mg t):bB P w K mg base (CXr P w) 1 t.f_cu t.fd_cu ["value"] xZ:=by
 refine T.F_cu.okN yG (λ vs H Q E h=>?_) (λ j A outer s H vs Q E q h=>?_)
 ·obtain⟨i,rfl,_⟩:=h;rfl
 ·obtain⟨i,rfl,k⟩:=h
  refine⟨_,(aJ (aR (kR (bP (dc (K:=K)) rfl T.no_isinstance dg (aI (pv 0) (aI (j5 (v:=.ty "int") rfl T.no_int ve rfl) aG))) (iX (mM (bP (dc (K:=K)) rfl T.no_isinstance dg (aI (pv 0) (aI (j5 (v:=.ty "bool") rfl T.no_bool vI rfl) aG)))))))),?_⟩
  refine⟨_,rfl,_,_,.plain (.int i),eY _ _,_,rfl,dF ?_⟩
  exact⟨_,rfl,_,_,.plain (.int i),T.ki_b,_,rfl,k⟩
theorem fh {H:Hp}{p a C dx:Addr}{fs fs':List (Str×V)}{xs:List V}(hp:H p=some (.ins C dx fs)) (h:SqL K H a xs):SqL K (upd H p (.ins C dx fs')) a xs:=by
 rcases h with (h|⟨o,h⟩)|h
 ·exact .inl (.inl (by rw[aE (dG h hp (by simp))];exact h))
 ·exact .inl (.inr ⟨o,by rw[aE (dG h hp (by simp))];exact h⟩)
 ·exact .inr h
theorem t9 {H:Hp}{p a C dx:Addr}{fs fs':List (Str×V)}{xs:List V}(hp:H p=some (.ins C dx fs)) (h:SqT K H a xs):SqT K (upd H p (.ins C dx fs')) a xs:=by
 rcases h with (h|⟨o,h⟩)|h
 ·exact .inl (.inl (by rw[aE (dG h hp (by simp))];exact h))
 ·exact .inl (.inr ⟨o,by rw[aE (dG h hp (by simp))];exact h⟩)
 ·exact .inr h
theorem dr (h:fs.length<=n) (j:n<999):(aP f v fs).length<1000:=by
 have:=bJ f v fs
 lia
noncomputable def evF (v:V) (st:Int) (l1 l2:Addr):List (Str×V):=aP "said" (.ref l2) (aP "sent" (.ref l1) (aP "state" (.int st) (aP "used" v [])))
noncomputable def zU (K:W.Frag) (t:Adr):Sp:=λ vs H Q _=>∃ p dx v st a b xs ys,vs=[.ref p,v,.int st,.ref a,.ref b]/\H p=some (.ins t.c_Event dx [])/\SqL K H a xs/\xs.length<=1000/\(∀ x∈xs,∃ q zs,x=.ref q/\SqT K H q zs)/\SqL K H b ys /\
 ∀ l1 l2 H',H l1=none->H l2=none->l1≠l2->(∀ c,H' c=if c=p then some (.ins t.c_Event dx (evF v st l1 l2)) else if c=l1 then some (.lst xs) else if c=l2 then some (.lst ys) else H c)->Q .non H'
theorem uS (T:Txt K mg t):bB P w K mg base (CXr P w) 1 t.f_cc t.fd_cc ["self","used","state","sent","said"] (zU K t):=by
 refine T.F_cc.okN yy (λ vs H Q E h=>?_) (λ a3 A outer s H vs Q E hr h=>?_)
 ·obtain⟨p,dx,v,st,a,b,xs,ys,rfl,_⟩:=h;rfl
 ·obtain⟨p,dx,v,st,a,b,xs,ys,rfl,hp,ha,a2,hx,hb,k⟩:=h
  refine⟨_,(aH (bH (K:=K) (pv 0) (pv 1) rfl)
   (aH (bH (K:=K) (pv 0) (pv 2) rfl)
   (aH (bH (K:=K) (pv 0) (cC ["self","used","state","sent","said","letter"] 1 rfl (cX (K:=K) (pv 3)) (λ _ _ _ _ _=>⟨(bq (i:=5) (show List.Nodup (["self","used","state","sent","said","letter"]:List Str) from by decide +kernel) rfl (Or.inl rfl)),cP,(bX (mu (K:=K)) rfl T.no_tuple oV (aI (pv 5) aG))⟩)) rfl)
   (aJ (bH (K:=K) (pv 0) (bX (mG (K:=K)) rfl T.no_list nB (aI (pv 4) aG)) rfl))))),?_⟩
  refine⟨_,rfl,_,rfl,p,_,dx,_,rfl,hp,T.cl_Event,T.na_cj,by decide,?_⟩
  refine⟨_,rfl,_,rfl,p,_,dx,_,rfl,aD,T.cl_Event,T.na_bx,dr (n:=0) (Nat.le_refl _) (by decide),?_⟩
  rw[f9]
  have O:SqL K (upd H p (HO.ins t.c_Event dx (aP "state" (V.int st) (aP "used" v [])))) a xs:=fh hp ha
  have Y:SqL K (upd H p (HO.ins t.c_Event dx (aP "state" (V.int st) (aP "used" v [])))) b ys:=fh hp hb
  have a1:∀ x∈xs,∃ q zs,x=.ref q/\SqT K (upd H p (HO.ins t.c_Event dx (aP "state" (V.int st) (aP "used" v [])))) q zs:=λ x m=>let ⟨q,zs,e,h⟩:=hx x m;⟨q,zs,e,t9 hp h⟩
  have G:upd H p (HO.ins t.c_Event dx (aP "state" (V.int st) (aP "used" v []))) p=_:=aD
  generalize M:upd H p (HO.ins t.c_Event dx (aP "state" (V.int st) (aP "used" v [])))=H1 at O Y a1 G ⊢
  refine⟨_,rfl,a,rfl,⟨_,O⟩,dk (xs:=xs) a2 λ acc j=>⟨λ i L zs H2=>zs=xs.take i/\H2=upd H1 acc (.lst zs)/\∃ o,L=[some (.ref p),some v,some (.int st),some (.ref a),some (.ref b),o],⟨rfl,rfl,_,rfl⟩,?_,?_,?_⟩⟩
  ·rintro i L zs H2 hi ⟨rfl,rfl,_,rfl⟩
   exact⟨(aL.new j).seq O,by rw[CB];lia⟩
  ·rintro i x L zs H2 hi Z ⟨rfl,rfl,o,rfl⟩
   obtain⟨q,zs,rfl,hq⟩:=a1 x (BJ Z)
   dsimp only[cH,gY]
   refine dF ⟨_,rfl,q,zs,rfl,.inr ⟨(aL.new j).tup hq,aD,Nx.mk hi ⟨?_,?_,_,rfl⟩⟩⟩
   ·rw[Dq,Z];rfl
   ·rw[f9]
  ·rintro L zs H2 ⟨rfl,rfl,o,rfl⟩
   rw[Eu]
   have J:p≠acc:=aF G j
   refine⟨_,rfl,p,_,dx,_,rfl,(by rw[aE J];exact G),T.cl_Event,T.na_ci,dr (n:=1) (bJ _ _ _) (by decide),?_⟩
   refine⟨_,rfl,b,ys,rfl,.inl (fh (by rw[aE J];exact G) ((aL.new j).seq Y)),λ l2 F=>?_⟩
   have U:p≠l2:=aF (aD) F
   have nl:acc≠l2:=aF (o:=.lst xs) (by rw[aE (Ne.symm J),aD]) F
   refine⟨_,rfl,p,_,dx,_,rfl,(by rw[aE U,aD]),T.cl_Event,T.na_ch,dr (n:=2) (B6 (bJ _ _ _) (E3 (bJ _ _ _))) (by decide),?_⟩
   refine k acc l2 _ ?_ ?_ nl λ c=>?_
   ·rw[<- M,aE (Ne.symm J)] at j;exact j
   ·rw[aE (Ne.symm U),aE (Ne.symm nl),<- M,aE (Ne.symm U)] at F;exact F
   ·rw[<- M]
    unfold evF
    by_cases W:c=p
    ·rw[W,aD,BN rfl]
    ·rw[aE W,BI W]
     by_cases c2:c=l2
     ·rw[c2,aD,BI (Ne.symm nl),BN rfl]
     ·rw[aE c2,aE W]
      by_cases c3:c=acc
      ·rw[c3,aD,BN rfl]
      ·rw[aE c3,aE W,BI c3,BI c2]
structure EvA where
 u:PyData
 st:Int
 se:List (List PyData)
 sa:List PyData
noncomputable def EvO (K:W.Frag) (t:Adr) (G:Hp) (e:Addr) (A:EvA):Prop:=∃ dx v l1 l2 xs ys,G e=some (.ins t.c_Event dx (evF v A.st l1 l2))/\Rp K G v A.u/\G l1=some (.lst xs)/\bR K G xs (A.se.map PyData.tuple)/\xs.length<=1000/\G l2=some (.lst ys)/\bR K G ys A.sa
theorem EvO.same (s:aL G G') (h:EvO K t G e A):EvO K t G' e A:=by
 obtain⟨dx,v,M,O,xs,ys,h1,h2,j,q,F,J,L⟩:=h
 exact⟨dx,v,M,O,xs,ys,s _ _ h1,h2.same s,s _ _ j,q.same s,F,s _ _ J,L.same s⟩
theorem rL:(evF v st l1 l2).lookup ("used" : Str)=some v:=by unfold evF;rw[bF,BI (by decide),bF,BI (by decide),bF,BI (by decide),bF,BN rfl]
theorem jU:(evF v st l1 l2).lookup ("state" : Str)=some (V.int st):=by unfold evF;rw[bF,BI (by decide),bF,BI (by decide),bF,BN rfl]
theorem eP:(evF v st l1 l2).lookup ("sent" : Str)=some (V.ref l1):=by unfold evF;rw[bF,BI (by decide),bF,BN rfl]
theorem rz:(evF v st l1 l2).lookup ("said" : Str)=some (V.ref l2):=by unfold evF;rw[bF,BN rfl]
theorem oU:∀ {xs:List V}{ds:List (List PyData)},bR K G xs (ds.map PyData.tuple)->∀ x∈xs,∃ q zs,x=.ref q/\SqT K G q zs
 | _,d::ds,.cons r rs,x,j=>by
  rcases BF.mp j with rfl|j
  ·cases r with
   | tup q _=>exact⟨_,_,rfl,q⟩
  ·exact oU rs x j
 | _,[],.nil,x,j=>by cases j
noncomputable def yK (K:W.Frag) (t:Adr):Sp:=λ vs H Q _=>∃ G e A,vs=[.ref e]/\aL G H/\EvO K t G e A/\∀ G' H' e',fD H G G' H'->aL H H'->EvO K t G' e' A->Q (.ref e') H'
theorem zY (T:Txt K mg t):bB P w K mg base (CXr P w) 3 t.f_cz t.fd_cz ["event"] (yK K t):=by
 refine T.F_cz.okN Av (λ vs H Q E h=>?_) (λ a5 A outer s H vs Q E hr h=>?_)
 ·obtain⟨G,e,A,rfl,_⟩:=h;rfl
 ·obtain⟨G,e,A,rfl,Z,ev,k⟩:=h
  refine⟨_,(aJ (aR (fm T.mk_Event (uS (K:=K) T) (hr.mono (by decide)) rfl T.mg_Event T.b_cc .nil aK (aI (aO (K:=K) (pv 0) rfl) (aI (aO (K:=K) (pv 0) rfl) (aI (aO (K:=K) (pv 0) rfl) (aI (aO (K:=K) (pv 0) rfl) aG))))))),?_⟩
  obtain⟨dx,v,l1,l2,xs,ys,h1,h2,h3,h4,h5,h6,h7⟩:=id ev
  have he:=Z _ _ h1
  refine⟨_,rfl,e,_,dx,_,_,rfl,he,T.cl_Event,T.na_cj,rL,?_⟩
  refine⟨_,rfl,e,_,dx,_,_,rfl,he,T.cl_Event,T.na_bx,jU,?_⟩
  refine⟨_,rfl,e,_,dx,_,_,rfl,he,T.cl_Event,T.na_ci,eP,?_⟩
  refine⟨_,rfl,e,_,dx,_,_,rfl,he,T.cl_Event,T.na_ch,rz,λ x F nx a3 a6=>?_⟩
  have Y:aL H (upd (upd H F (.own x)) x (.ins t.c_Event F [])):=aL.ins nx a3
  refine⟨x,F,v,A.st,l1,l2,xs,ys,rfl,aD,SqL.of (Y _ _ (Z _ _ h3)),h5,λ y hy=>let ⟨q,zs,e1,e2⟩:=oU h4 y hy;⟨q,zs,e1,(Z.trans Y).tup e2⟩,SqL.of (Y _ _ (Z _ _ h6)),λ j J H' n1 n2 W hH=>⟨rfl,?_⟩⟩
  have a1:j≠x:=λ z=>by rw[z,aD] at n1;cases n1
  have a2:J≠x:=λ z=>by rw[z,aD] at n2;cases n2
  have U:H j=none:=by
   cases q:H j with
   | none=>rfl
   | some u=>rw[Y _ _ q] at n1;cases n1
  have V:H J=none:=by
   cases q:H J with
   | none=>rfl
   | some u=>rw[Y _ _ q] at n2;cases n2
  have gN:∀ {c:Addr},H c=none->G c=none:=λ{c} z=>by
   cases q:G c with
   | none=>rfl
   | some u=>rw[Z _ _ q] at z;cases z
  have a4:aL H H':=λ c u q=>by
   rw[hH c,BI (λ z=>by rw[z,nx] at q;cases q),BI (λ z=>by rw[z,U] at q;cases q),BI (λ z=>by rw[z,V] at q;cases q)]
   exact Y _ _ q
  have g1:aL G (upd G j (.lst xs)):=aL.new (gN U)
  have g2:aL (upd G j (.lst xs)) (upd (upd G j (.lst xs)) J (.lst ys)):=aL.new (by rw[aE (Ne.symm W)];exact gN V)
  have g3:aL (upd (upd G j (.lst xs)) J (.lst ys)) (upd (upd (upd G j (.lst xs)) J (.lst ys)) x (.ins t.c_Event F (evF v A.st j J))):=aL.new (by rw[aE (Ne.symm a2),aE (Ne.symm a1)];exact gN nx)
  have gs:=g1.trans (g2.trans g3)
  refine k (upd (upd (upd G j (.lst xs)) J (.lst ys)) x (.ins t.c_Event F (evF v A.st j J))) H' x ⟨gs,λ c u q=>?_,λ c u q=>?_⟩ a4 ⟨F,v,j,J,xs,ys,aD,h2.same gs,?_,h4.same gs,h5,?_,h7.same gs⟩
  ·rw[hH c]
   by_cases L:c=x
   ·rw[L,aD] at q;rw[BN L];exact q
   ·rw[aE L] at q;rw[BI L]
    by_cases M:c=j
    ·rw[M,aE W,aD] at q;rw[BN M];exact q
    ·rw[BI M]
     by_cases O:c=J
     ·rw[O,aD] at q;rw[BN O];exact q
     ·rw[BI O];rw[aE O,aE M] at q;exact Y _ _ (Z _ _ q)
  ·by_cases L:c=x
   ·rw[L];exact .inr nx
   ·rw[aE L] at q
    by_cases O:c=J
    ·rw[O];exact .inr V
    ·rw[aE O] at q
     by_cases M:c=j
     ·rw[M];exact .inr U
     ·rw[aE M] at q;exact .inl q
  ·rw[aE a1,aE W,aD]
  ·rw[aE a2,aD]
noncomputable def A6:Sp:=λ vs H Q _=>∃ x d h,vs=[x,.int d,.int h]/\Q (.int d) H
theorem yO (T:Txt K mg t):bB P w K mg base (CXr P w) 1 t.f_ae t.fd_ae ["self","down","here"] A6:=by
 refine T.F_ae.okN yV (λ vs H Q E h=>?_) (λ j A outer s H vs Q E q h=>?_)
 ·obtain⟨x,d,h,rfl,_⟩:=h;rfl
 ·obtain⟨x,d,h,rfl,k⟩:=h
  exact⟨_,(aJ (aR (pv 1))),_,rfl,k⟩
noncomputable def Az:Sp:=λ vs H Q _=>∃ x d h,vs=[x,.int d,.int h]/\Q (.int d) H
theorem uA (T:Txt K mg t):bB P w K mg base (CXr P w) 1 t.f_ab t.fd_ab ["self","down","here"] Az:=by
 refine T.F_ab.okN AF (λ vs H Q E h=>?_) (λ j A outer s H vs Q E q h=>?_)
 ·obtain⟨x,d,h,rfl,_⟩:=h;rfl
 ·obtain⟨x,d,h,rfl,k⟩:=h
  exact⟨_,(aJ (aR (pv 1))),_,rfl,k⟩
noncomputable def xV:Sp:=λ vs H Q _=>∃ x d h,vs=[x,.int d,.int h]/\Q (.int h) H
theorem zD (T:Txt K mg t):bB P w K mg base (CXr P w) 1 t.f_af t.fd_af ["self","down","here"] xV:=by
 refine T.F_af.okN zM (λ vs H Q E h=>?_) (λ j A outer s H vs Q E q h=>?_)
 ·obtain⟨x,d,h,rfl,_⟩:=h;rfl
 ·obtain⟨x,d,h,rfl,k⟩:=h
  exact⟨_,(aJ (aR (pv 2))),_,rfl,k⟩
noncomputable def xq (t:Adr):Sp:=λ vs H Q E=>∃ p dx i,vs=[.ref p,.int i]/\H p=some (.ins t.c_Bundle dx []) /\
 (1<=i->i<=20->Q .non (upd H p (.ins t.c_Bundle dx (aP "size" (.int i) []))))/\(¬ (1<=i/\i<=20)->E (.ref t.c_NoSize) none H)
theorem zo (T:Txt K mg t):bB P w K mg base (CXr P w) 2 t.f_bo t.fd_bo ["self","size"] (xq t):=by
 refine T.F_bo.okR zh (λ vs H Q E h=>?_) (λ q A outer s H vs Q E F J h=>?_)
 ·obtain⟨p,dx,i,rfl,_⟩:=h;rfl
 ·obtain⟨p,dx,i,rfl,G,L,j⟩:=h
  refine⟨_,(aH (bQ (PW.pt (fP (cY (cI (aV (kZ (K:=K) T) (J.mono (by decide)) rfl T.mg_cu T.kp_cu T.b_cu .nil aK (aI (pv 1) aG)))) (fP (bA o9 (pv 1) (jQ rfl T.mv_SMALLEST_SIZE) (bD _)) (gB (bA oR (pv 1) (jQ rfl T.mv_GREATEST_SIZE) (bD _))))))
    (aJ (mq F rfl T.mg_NoSize T.ex_NoSize (aI dD aG)))
    bu)
   (aJ (bH (K:=K) (pv 0) (pv 1) rfl))),?_⟩
  refine⟨_,rfl,i,rfl,_,rfl,gy ?_⟩
  refine⟨_,rfl,_,_,rfl,rfl,_,rfl,eC (λ z=>dF ⟨by decide,j ?_⟩) λ U=>?_⟩
  ·have:=CN z;lia
  refine⟨_,rfl,_,_,rfl,rfl,_,rfl,eC (λ z=>⟨by decide,j ?_⟩) λ V=>?_⟩
  ·have:=CN z;lia
  have M:1<=i:=by simpa using U
  have O:i<=20:=by simpa using V
  exact⟨_,rfl,_,rfl,p,_,dx,_,rfl,G,T.cl_Bundle,T.na_bw,by decide,L M O⟩
noncomputable def AB (t:Adr):Sp:=λ vs H Q _=>∃ p dx n d h,vs=[.ref p,.int d,.int h]/\H p=some (.ins t.c_Bundle dx (aP "size" (.int n) []))/\Q (.int (if h-d >= n then h else d)) H
theorem yh (T:Txt K mg t):bB P w K mg base (CXr P w) 1 t.f_ad t.fd_ad ["self","down","here"] (AB t):=by
 refine T.F_ad.okN AW (λ vs H Q E h=>?_) (λ j A outer s H vs Q E F h=>?_)
 ·obtain⟨p,dx,n,d,h,rfl,_⟩:=h;rfl
 ·obtain⟨p,dx,n,d,h,rfl,q,k⟩:=h
  refine⟨_,(aH (bQ (bA oy (ba qG (pv 2) (pv 1)) (aO (K:=K) (pv 0) rfl) (bD _))
    (aJ (aR (pv 2)))
    bu)
   (aJ (aR (pv 1)))),?_⟩
  refine⟨_,rfl,_,rfl,_,_,rfl,rfl,_,rfl,p,_,dx,_,.int n,rfl,q,T.cl_Bundle,T.na_bw,(by rw[bF,BN rfl]),_,_,rfl,rfl,_,rfl,eC (λ z=>⟨_,rfl,?_⟩) λ z=>⟨_,rfl,?_⟩⟩
  ·rwa [BN (CN z)] at k
  ·rwa [BI (λ y=>z (Cu y))] at k
noncomputable def y9:Sp:=λ vs H Q _=>∃ x d h,vs=[x,.int d,.int h]/\Q (.int h) H
theorem xU (T:Txt K mg t):bB P w K mg base (CXr P w) 1 t.f_aa t.fd_aa ["self","down","here"] y9:=by
 refine T.F_aa.okN zZ (λ vs H Q E h=>?_) (λ j A outer s H vs Q E q h=>?_)
 ·obtain⟨x,d,h,rfl,_⟩:=h;rfl
 ·obtain⟨x,d,h,rfl,k⟩:=h
  exact⟨_,(aJ (aR (pv 2))),_,rfl,k⟩
noncomputable def thF (first:Int) (ha dn wr:Addr) (down:Int):List (Str×V):=[("first",.int first),("habit",.ref ha),("done",.ref dn),("writings",.ref wr),("down",.int down)]
theorem ft:(thF first ha dn wr down).length<1000:=by show 5<1000;decide
noncomputable def wX (t:Adr):Sp:=λ vs H Q _=>∃ p dx i ha,vs=[.ref p,.int i,.ref ha]/\H p=some (.ins t.c_Thread dx []) /\
 ∀ dn wr H',H dn=none->H wr=none->dn≠wr->(∀ c,H' c=if c=p then some (.ins t.c_Thread dx (thF i ha dn wr 0)) else if c=dn then some (.lst []) else if c=wr then some (.lst [.int 0]) else H c)->Q .non H'
theorem zf (T:Txt K mg t):bB P w K mg base (CXr P w) 1 t.f_bp t.fd_bp ["self","start","habit"] (wX t):=by
 refine T.F_bp.okN xm (λ vs H Q E h=>?_) (λ V A outer s H vs Q E Z h=>?_)
 ·obtain⟨p,dx,i,W,rfl,_⟩:=h;rfl
 ·obtain⟨p,dx,i,W,rfl,Y,k⟩:=h
  refine⟨_,(aH (bH (K:=K) (pv 0) (pv 1) rfl)
   (aH (bH (K:=K) (pv 0) (pv 2) rfl)
   (aH (bH (K:=K) (pv 0) (cG aG) rfl)
   (aH (bH (K:=K) (pv 0) (cG (aI aN aG)) rfl)
   (aJ (bH (K:=K) (pv 0) aN rfl)))))),?_⟩
  refine⟨_,rfl,_,rfl,p,_,dx,_,rfl,Y,T.cl_Thread,T.na_bk,by decide,?_⟩
  refine⟨_,rfl,_,rfl,p,_,dx,_,rfl,aD,T.cl_Thread,T.na_bn,dr (n:=0) (Nat.le_refl _) (by decide),?_⟩
  rw[f9]
  refine⟨by decide,λ M q=>⟨_,rfl,p,_,dx,_,rfl,(by rw[aE (aF aD q),aD]),T.cl_Thread,T.na_ca,dr (n:=1) (bJ _ _ _) (by decide),?_⟩⟩
  have J:p≠M:=aF aD q
  refine⟨by decide,λ wr j=>⟨_,rfl,p,_,dx,_,rfl,(by rw[aE (aF aD j),aD]),T.cl_Thread,T.na_ap,dr (n:=2) (B6 (bJ _ _ _) (E3 (bJ _ _ _))) (by decide),?_⟩⟩
  have L:p≠wr:=aF aD j
  have F:M≠wr:=aF (o:=.lst []) (by rw[aE (Ne.symm J),aD]) j
  refine⟨_,rfl,p,_,dx,_,rfl,aD,T.cl_Thread,T.na_cb,dr (n:=3) (B6 (bJ _ _ _) (E3 (B6 (bJ _ _ _) (E3 (bJ _ _ _))))) (by decide),?_⟩
  refine k M wr _ ?_ ?_ F λ c=>?_
  ·rw[aE (Ne.symm J)] at q;exact q
  ·rw[aE (Ne.symm L),aE (Ne.symm F),aE (Ne.symm L)] at j;exact j
  ·by_cases G:c=p
   ·rw[G,aD,BN rfl];rfl
   ·rw[aE G,aE G,BI G]
    by_cases O:c=wr
    ·rw[O,aD,BI (Ne.symm F),BN rfl]
    ·rw[aE O,aE G]
     by_cases U:c=M
     ·rw[U,aD,BN rfl]
     ·rw[aE U,aE G,BI U,BI O]
noncomputable def Ap (t:Adr) (K:W.Frag):Sp:=λ vs H Q _=>∃ p dx i ha dn wr d xs,vs=[.ref p]/\H p=some (.ins t.c_Thread dx (thF i ha dn wr d))/\SqL K H dn xs/\Q (.int xs.length) H
theorem dq (T:Txt K mg t):bB P w K mg base (CXr P w) 1 t.f_bq t.fd_bq ["self"] (Ap t K):=by
 refine T.F_bq.okN xD (λ vs H Q E h=>?_) (λ q A outer s H vs Q E L h=>?_)
 ·obtain⟨p,dx,i,F,j,wr,d,xs,rfl,_⟩:=h;rfl
 ·obtain⟨p,dx,i,F,j,wr,d,xs,rfl,J,G,k⟩:=h
  refine⟨_,(aJ (aR (bP (dH (K:=K)) rfl T.no_len lA (aI (aO (K:=K) (pv 0) rfl) aG)))),?_⟩
  exact⟨_,rfl,p,_,dx,_,.ref j,rfl,J,T.cl_Thread,T.na_ca,rfl,j,xs,rfl,.inl G,k⟩
noncomputable def ri (K:W.Frag) (t:Adr) (G:Hp) (es:List V) (As:List EvA):Prop:=es.length=As.length/\∀ (i:Nat) (e:V) (A:EvA),es[i]? = some e->As[i]? = some A->∃ q,e=V.ref q/\EvO K t G q A
theorem ri.same (s:aL G G') (h:ri K t G es As):ri K t G' es As:=⟨h.1,λ i e A a b=>let ⟨q,z,y⟩:=h.2 i e A a b;⟨q,z,y.same s⟩⟩
theorem b9:atI (x::xs) 0=some x:=by
 unfold atI ixN
 rw[BN (by lia),BN (by rw[Ci];lia)]
 rfl
noncomputable def yf (K:W.Frag) (t:Adr):Sp:=λ vs H Q _=>∃ p dx i ha dn wr d xs y,vs=[.ref p,.int y]/\H p=some (.ins t.c_Thread dx (thF i ha dn wr d))/\SqL K H dn xs/\Q (.bl (decide (y=xs.length))) H
theorem zr (T:Txt K mg t):bB P w K mg base (CXr P w) 2 t.f_aq t.fd_aq ["self","place"] (yf K t):=by
 refine T.F_aq.okN Aw (λ vs H Q E h=>?_) (λ J A outer s H vs Q E G h=>?_)
 ·obtain⟨p,dx,i,q,j,wr,d,xs,y,rfl,_⟩:=h;rfl
 ·obtain⟨p,dx,i,q,j,wr,d,xs,y,rfl,F,L,k⟩:=h
  refine⟨_,(aJ (aR (kR (aV (kZ (K:=K) T) (G.mono (by decide)) rfl T.mg_cu T.kp_cu T.b_cu .nil aK (aI (pv 1) aG)) (iX (cU i4 (pv 1) (aU (pv 0) T.cl_Thread T.me_bq (dq (K:=K) T) (G.mono (by decide)) T.b_bq .nil aK) (bD _)))))),?_⟩
  refine⟨_,rfl,y,rfl,_,rfl,dF ?_⟩
  refine⟨_,rfl,_,rfl,p,dx,_,rfl,F,rfl,p,dx,i,q,j,wr,d,xs,rfl,F,L,?_⟩
  refine⟨rfl,?_⟩
  have e:decide (V.int y=V.int xs.length)=decide (y=(xs.length:Int)):=by rw[DV];simp
  rw[e];exact k
theorem fL {y:Int}:∀ {ws:List Int},inV (V.int y) (iV ws)=decide (y∈ws)
 | []=>rfl
 | w::ws=>by
  have ih:inV (V.int y) (iV ws)=decide (y∈ws):=fL
  show (eqV (V.int w) (V.int y) || inV (V.int y) (iV ws))=_
  rw[ih,DV,FQ,EK,EK,BF]
  show ((w == y)=true\/_)↔_
  rw[Dc]
  exact⟨λ h=>h.elim (λ e=>.inl e.symm) .inr,λ h=>h.elim (λ e=>.inl e.symm) .inr⟩
noncomputable def Ab (t:Adr):Sp:=λ vs H Q _=>∃ p dx i ha dn wr d w0 ws y,vs=[.ref p,.int y]/\H p=some (.ins t.c_Thread dx (thF i ha dn wr d))/\H wr=some (.lst (iV (w0::ws)))/\Q (.bl (decide (y∈w0::ws\/(w0<=y/\y<=d)))) H
theorem AN (T:Txt K mg t):bB P w K mg base (CXr P w) 2 t.f_ak t.fd_ak ["self","place"] (Ab t):=by
 refine T.F_ak.okN zQ (λ vs H Q E h=>?_) (λ O A outer s H vs Q E Z h=>?_)
 ·obtain⟨p,dx,i,Y,U,wr,d,j,F,y,rfl,_⟩:=h;rfl
 ·obtain⟨p,dx,i,Y,U,wr,d,j,F,y,rfl,J,M,k⟩:=h
  refine⟨_,(aH (bQ (cY (cI (aV (kZ (K:=K) T) (Z.mono (by decide)) rfl T.mg_cu T.kp_cu T.b_cu .nil aK (aI (pv 1) aG))))
    (aJ (aR eZ))
    bu)
   (aH (bQ (bA (qY (K:=K)) (pv 1) (aO (K:=K) (pv 0) rfl) (by with_unfolding_all rfl))
    (aJ (aR eZ))
    bu)
   (aJ (aR (kR (cU oy (pv 1) (bb (aZ (K:=K)) (aO (K:=K) (pv 0) rfl) aN (λ _ _=>rfl)) (bD _)) (iX (cU qO (pv 1) (aO (K:=K) (pv 0) rfl) (bD _)))))))),?_⟩
  refine⟨_,rfl,y,rfl,_,rfl,gy ?_⟩
  refine⟨_,rfl,_,rfl,p,_,dx,_,.ref wr,rfl,J,T.cl_Thread,T.na_ap,rfl,?_⟩
  have W:(iV (j::F)).all dM=true:=by
   unfold iV;rw[EH];exact Dy.mpr λ _ _=>rfl
  have G:inV (V.int y) (iV (j::F))=decide (y∈j::F):=fL
  refine⟨wr,_,rfl,.inl (SqL.of M),rfl,W,_,rfl,?_⟩
  rw[BI (by simp),G]
  by_cases z:y∈j::F
  ·rw[Cu z]
   rw[Cu (Or.inl z)] at k
   exact dF k
  ·rw[CL z]
   refine gy ?_
   refine⟨_,rfl,_,rfl,p,_,dx,_,.ref wr,rfl,J,T.cl_Thread,T.na_ap,rfl,wr,_,0,.int j,rfl,rfl,SqL.of M,b9,_,_,rfl,rfl,_,rfl,?_⟩
   refine eC (λ L=>⟨_,rfl,_,rfl,p,_,dx,_,.int d,rfl,J,T.cl_Thread,T.na_cb,rfl,_,_,rfl,rfl,?_⟩) λ L=>?_
   ·have e:decide (y∈j::F\/j<=y/\y<=d)=decide (y<=d):=by
     rw[DV,EK,EK]
     exact⟨λ h=>h.elim (λ q=>absurd q z) λ q=>q.2,λ h=>.inr ⟨CN L,h⟩⟩
    rw[e] at k;exact k
   ·have e:decide (y∈j::F\/j<=y/\y<=d)=false:=by
     rw[Eg]
     exact λ h=>h.elim z λ q=>L (Cu q.1)
    rw[e] at k;exact k
noncomputable def kU (first:Int) (As:List EvA) (y:Int):Int:=if y=0 then first else ((As[(y-1).toNat]?).map EvA.st).getD 0
noncomputable def fV (n:Nat) (ws:List Int) (w0 d y:Int):Prop:=y=n\/y∈w0::ws\/(w0<=y/\y<=d)
noncomputable def AG (K:W.Frag) (t:Adr):Sp:=λ vs H Q E=>∃ G p dx i ha dn wr d w0 ws es As y,vs=[.ref p,.int y]/\aL G H/\H p=some (.ins t.c_Thread dx (thF i ha dn wr d))/\H wr=some (.lst (iV (w0::ws)))/\H dn=some (.lst es)/\ri K t G es As /\
 (∀ z∈w0::ws,0<=z/\z<=es.length)/\d<=es.length/\(fV es.length ws w0 d y->Q (.int (kU i As y)) H)/\(¬ fV es.length ws w0 d y->E (.ref t.c_NoPoint) none H)
theorem vt (T:Txt K mg t):bB P w K mg base (CXr P w) 3 t.f_al t.fd_al ["self","place"] (AG K t):=by
 refine T.F_al.okR xK (λ vs H Q E h=>?_) (λ a3 A outer s H vs Q E hh hr h=>?_)
 ·obtain⟨G,p,dx,i,ha,O,wr,d,J,M,es,As,y,rfl,_⟩:=h;rfl
 ·obtain⟨G,p,dx,i,ha,O,wr,d,J,M,es,As,y,rfl,sG,L,hw,hd,ev,bw,bd,kg,kb⟩:=h
  refine⟨_,(aH (bQ (PW.pt (nj (cY (cI (bj (pv 0) T.cl_Thread T.me_aq (zr (K:=K) T) (hr.mono (by decide)) T.b_aq .nil aK (aI (pv 1) aG)))) (kL (cY (cI (bj (pv 0) T.cl_Thread T.me_ak (AN (K:=K) T) (hr.mono (by decide)) T.b_ak .nil aK (aI (pv 1) aG)))))))
    (aJ (mq hh rfl T.mg_NoPoint T.ex_NoPoint (aI dD aG)))
    bu)
   (aH (bQ (bA i4 (pv 1) aN (bD _))
    (aJ (aR (aO (K:=K) (pv 0) rfl)))
    bu)
   (aJ (aR (aO (K:=K) (bb (aZ (K:=K)) (aO (K:=K) (pv 0) rfl) (ba qG (pv 1) aN) (λ _ _=>rfl)) rfl))))),?_⟩
  have b0:=bw J BR
  have rest:fV es.length M J d y->Q (.int (kU i As y)) H:=kg
  have a2:fV es.length M J d y->0<=y/\y<=es.length:=λ c=>by
   rcases c with c|c|c
   ·lia
   ·exact bw y c
   ·lia
  have U:fV es.length M J d y->(ja (zc (va (tOp rEq (cN 1) (tC (V.int 0)))) (qZ (qS K (cN 0) "first")) uY)
    (qZ (qS K (tOp (wJ K) (qS K (cN 0) "done") (tOp (rI0 λ i j=>V.int (i-j)) (cN 1) (tC (V.int 1)))) "state"))) { nx:=λ x H'=>Q V.non H',rt:=Q } [some (.ref p),some (.int y)] H:=by
   intro c
   have r:=a2 c
   have F:=kg c
   refine⟨_,rfl,rfl,_,rfl,?_⟩
   by_cases Z:y=0
   ·refine f7 (by rw[Z];simp) ⟨_,rfl,p,_,dx,_,.int i,rfl,L,T.cl_Thread,T.na_bk,rfl,?_⟩
    unfold kU at F;rw[BN Z] at F;exact F
   ·refine cj (by simp[Z]) ?_
    obtain⟨e,he⟩:∃ e,es[(y-1).toNat]? = some e:=⟨_,Bz (by lia)⟩
    obtain⟨Ai,hA⟩:∃ Ai,As[(y-1).toNat]? = some Ai:=⟨_,Bz (by rw[<- ev.1];lia)⟩
    obtain⟨q,rfl,a1,v,l1,l2,xs,ys,h1,_⟩:=ev.2 _ _ _ he hA
    refine⟨_,rfl,p,_,dx,_,.ref O,rfl,L,T.cl_Thread,T.na_ca,rfl,_,rfl,_,_,rfl,rfl,O,es,y-1,.ref q,rfl,rfl,SqL.of hd,?_,q,_,a1,_,.int Ai.st,rfl,sG _ _ h1,T.cl_Event,T.na_bx,jU,?_⟩
    ·unfold atI ixN;rw[BN (by lia),BN (by lia)];exact he
    ·unfold kU at F;rw[BI Z,hA] at F;exact F
  refine⟨_,rfl,p,dx,_,rfl,L,rfl,_,rfl,p,dx,i,ha,O,wr,d,es,y,rfl,L,SqL.of hd,_,rfl,?_⟩
  by_cases W:y=es.length
  ·refine cj (by rw[Cu W];rfl) (gy (U (.inl W)))
  ·refine f7 (by rw[CL W];rfl) ?_
   refine⟨_,rfl,p,dx,_,rfl,L,rfl,_,rfl,p,dx,i,ha,O,wr,d,J,M,y,rfl,L,hw,_,rfl,?_⟩
   by_cases Y:y∈J::M\/(J<=y/\y<=d)
   ·exact cj (by rw[Cu Y];rfl) (U (.inr Y))
   ·exact f7 (by rw[CL Y];rfl) ⟨by decide,kb λ z=>z.elim W Y⟩
inductive fE where
 | never|each|bundle (n:Int)
noncomputable def fE.iu:fE->Int->Int->Int
 | .never,d,_=>d
 | .each,_,h=>h
 | .bundle n,d,h=>if h-d >= n then h else d
noncomputable def fE.dR:fE->Int->Int->Int
 | .bundle _,_,h=>h
 | _,d,_=>d
noncomputable def jg (t:Adr) (G:Hp) (ha:Addr):fE->Prop
 | .never=>∃ dx,G ha=some (.ins t.c_Never dx [])
 | .each=>∃ dx,G ha=some (.ins t.c_Each dx [])
 | .bundle n=>∃ dx,G ha=some (.ins t.c_Bundle dx (aP "size" (.int n) []))
structure ThA where
 first:Int
 hab:fE
 evs:List EvA
 ws:List Int
 down:Int
structure ThL where
 (p dx ha dn wr:Addr)
structure Th (K:W.Frag) (t:Adr) (G H:Hp) (L:ThL) (A:ThA):Prop where
 self:H L.p=some (.ins t.c_Thread L.dx (thF A.first L.ha L.dn L.wr A.down))
 hab:jg t G L.ha A.hab
 done:∃ es,H L.dn=some (.lst es)/\ri K t G es A.evs
 dR:H L.wr=some (.lst (iV A.ws))
 held:aL G H
 gp:G L.p=none
 gd:G L.dn=none
 gw:G L.wr=none
 ne:L.dn≠L.wr
noncomputable def A9 (K:W.Frag) (t:Adr):Sp:=λ vs H Q _=>∃ G L A e Ev,vs=[.ref L.p,.ref e]/\Th K t G H L A/\EvO K t G e Ev/\A.evs.length<=900 /\
 ∀ G' H',fD H G G' H'->But [L.p,L.dn] H H'->Th K t G' H' L { A with evs:=A.evs++[Ev],down:=A.hab.iu A.down (A.evs.length+1) }->Q .non H'
theorem Ax (T:Txt K mg t):bB P w K mg base (CXr P w) 4 t.f_cl t.fd_cl ["self","event"] (A9 K t):=by
 refine T.F_cl.okN An (λ vs H Q E h=>?_) (λ cdv A outer s H vs Q E hr h=>?_)
 ·obtain⟨G,L,A,e,Ev,rfl,_⟩:=h;rfl
 ·obtain⟨G,L,A,e,Ev,rfl,th,ev,few,k⟩:=h
  refine⟨_,(aH (bh (cF (K:=K) Cc Cm Ck bM (aO (K:=K) (pv 0) rfl) (aI (aV (zY (K:=K) T) (hr.mono (by decide)) rfl T.mg_cz T.kp_cz T.b_cz .nil aK (aI (pv 1) aG)) aG)))
   (aJ (bH (K:=K) (pv 0) (kJ (bj (aO (K:=K) (pv 0) rfl) T.cl_Never T.me_Never_down_by_deed (yO (K:=K) T) (hr.mono (by decide)) T.b_ae .nil aK (aI (aO (K:=K) (pv 0) rfl) (aI (aU (pv 0) T.cl_Thread T.me_bq (dq (K:=K) T) (hr.mono (by decide)) T.b_bq .nil aK) aG))) (kJ (bj (aO (K:=K) (pv 0) rfl) T.cl_Each T.me_af (zD (K:=K) T) (hr.mono (by decide)) T.b_af .nil aK (aI (aO (K:=K) (pv 0) rfl) (aI (aU (pv 0) T.cl_Thread T.me_bq (dq (K:=K) T) (hr.mono (by decide)) T.b_bq .nil aK) aG))) (bj (aO (K:=K) (pv 0) rfl) T.cl_Bundle T.me_ad (yh (K:=K) T) (hr.mono (by decide)) T.b_ad .nil aK (aI (aO (K:=K) (pv 0) rfl) (aI (aU (pv 0) T.cl_Thread T.me_bq (dq (K:=K) T) (hr.mono (by decide)) T.b_bq .nil aK) aG))))) rfl))),?_⟩
  obtain⟨es,hd,evs⟩:=th.done
  refine⟨_,rfl,L.p,_,L.dx,_,.ref L.dn,rfl,th.self,T.cl_Thread,T.na_ca,rfl,?_⟩
  refine⟨.inl ⟨rfl,es,SqL.of hd⟩,_,rfl,G,e,Ev,rfl,th.held,ev,λ G' H' e' g s2 ev'=>?_⟩
  refine⟨L.dn,es,.ref e',rfl,rfl,s2 _ _ hd,bg (by rw[evs.1];lia),?_⟩
  have npd:L.p≠L.dn:=dG th.self hd (by simp)
  have npw:L.p≠L.wr:=dG th.self th.dR (by simp)
  have hp1:upd H' L.dn (.lst (es++[.ref e'])) L.p=some (.ins t.c_Thread L.dx (thF A.first L.ha L.dn L.wr A.down)):=by rw[aE npd];exact s2 _ _ th.self
  have hd1:upd H' L.dn (.lst (es++[.ref e'])) L.dn=some (.lst (es++[.ref e'])):=aD
  have len:((es++[V.ref e']).length:Int)=A.evs.length+1:=by rw[BL,evs.1];simp
  have gp':G' L.p=none:=g.free (by rw[th.self];simp) th.gp
  have gd':G' L.dn=none:=g.free (by rw[hd];simp) th.gd
  have gw':G' L.wr=none:=g.free (by rw[th.dR];simp) th.gw
  have habH:∀ b u,G b=some u->upd H' L.dn (.lst (es++[.ref e'])) b=some u:=λ b u z=>by
   rw[aE (aF z th.gd)];exact s2 _ _ (th.held _ _ z)
  have fin:∀ d',d'=A.hab.iu A.down (A.evs.length+1)->Q .non (upd (upd H' L.dn (.lst (es++[.ref e']))) L.p (.ins t.c_Thread L.dx (thF A.first L.ha L.dn L.wr d'))):=λ d' hd'=>by
   have held':aL G' (upd (upd H' L.dn (.lst (es++[.ref e']))) L.p (.ins t.c_Thread L.dx (thF A.first L.ha L.dn L.wr d'))):=λ b u z=>by
    rw[aE (aF z gp'),aE (aF z gd')];exact g.held _ _ z
   refine k G' _ ⟨g.sub,held',g.new⟩ (λ b u n z=>?_) ⟨?_,?_,⟨es++[.ref e'],?_,?_⟩,?_,held',gp',gd',gw',th.ne⟩
   ·simp only[BF,BM,Ca,DW] at n
    rw[aE n.1,aE n.2];exact s2 _ _ z
   ·rw[aD,hd']
   ·have hh:=th.hab
    revert hh
    cases A.hab<;>exact λ⟨dx,z⟩=>⟨dx,g.sub _ _ z⟩
   ·rw[aE (Ne.symm npd),aD]
   ·refine⟨by rw[BL,BL,evs.1];rfl,λ j x B hx hB=>?_⟩
    rw[List.getElem?_append] at hx hB
    by_cases hj:j<es.length
    ·rw[BN hj] at hx
     rw[BN (by rw[<- evs.1];exact hj)] at hB
     obtain⟨q,e1,e2⟩:=evs.2 j x B hx hB
     exact⟨q,e1,e2.same g.sub⟩
    ·rw[BI hj] at hx
     rw[BI (by rw[<- evs.1];exact hj)] at hB
     have lt:=(BE.mp hx).1
     have:j-es.length=0:=by simp at lt;lia
     rw[this] at hx
     rw[<- evs.1,this] at hB
     cases hx;cases hB
     exact⟨e',rfl,ev'⟩
   ·show upd (upd H' L.dn _) L.p _ L.wr=some (.lst (iV A.ws))
    rw[aE (Ne.symm npw),aE (Ne.symm th.ne)];exact s2 _ _ th.dR
  have hb:=th.hab
  cases hA:A.hab with
  | never=>
   rw[hA] at hb
   obtain⟨dxh,hh'⟩:=hb
   refine .inl ⟨_,rfl,L.p,_,L.dx,_,.ref L.ha,rfl,hp1,T.cl_Thread,T.na_bn,rfl,L.ha,dxh,_,rfl,habH _ _ hh',rfl,?_⟩
   refine⟨_,rfl,L.p,_,L.dx,_,.int A.down,rfl,hp1,T.cl_Thread,T.na_cb,rfl,?_⟩
   refine⟨_,rfl,L.p,L.dx,_,rfl,hp1,rfl,L.p,L.dx,_,_,_,_,_,_,rfl,hp1,SqL.of hd1,_,_,_,rfl,?_⟩
   exact⟨_,rfl,L.p,_,L.dx,_,rfl,hp1,T.cl_Thread,T.na_cb,ft,fin _ (by rw[hA];rfl)⟩
  | each=>
   rw[hA] at hb
   obtain⟨dxh,hh'⟩:=hb
   refine .inr (.inl ⟨_,rfl,L.p,_,L.dx,_,.ref L.ha,rfl,hp1,T.cl_Thread,T.na_bn,rfl,L.ha,dxh,_,rfl,habH _ _ hh',rfl,?_⟩)
   refine⟨_,rfl,L.p,_,L.dx,_,.int A.down,rfl,hp1,T.cl_Thread,T.na_cb,rfl,?_⟩
   refine⟨_,rfl,L.p,L.dx,_,rfl,hp1,rfl,L.p,L.dx,_,_,_,_,_,_,rfl,hp1,SqL.of hd1,_,_,_,rfl,?_⟩
   exact⟨_,rfl,L.p,_,L.dx,_,rfl,hp1,T.cl_Thread,T.na_cb,ft,fin _ (by rw[hA];exact len)⟩
  | bundle n=>
   rw[hA] at hb
   obtain⟨dxh,hh'⟩:=hb
   refine .inr (.inr ⟨_,rfl,L.p,_,L.dx,_,.ref L.ha,rfl,hp1,T.cl_Thread,T.na_bn,rfl,L.ha,dxh,_,rfl,habH _ _ hh',rfl,?_⟩)
   refine⟨_,rfl,L.p,_,L.dx,_,.int A.down,rfl,hp1,T.cl_Thread,T.na_cb,rfl,?_⟩
   refine⟨_,rfl,L.p,L.dx,_,rfl,hp1,rfl,L.p,L.dx,_,_,_,_,_,_,rfl,hp1,SqL.of hd1,L.ha,dxh,n,_,_,rfl,habH _ _ hh',?_⟩
   exact⟨_,rfl,L.p,_,L.dx,_,rfl,hp1,T.cl_Thread,T.na_cb,ft,fin _ (by rw[hA,len];rfl)⟩
noncomputable def ThA.wrote (A:ThA):ThA:=if (A.evs.length:Int)∈A.ws then A else { A with ws:=A.ws++[(A.evs.length:Int)],down:=A.hab.dR A.down A.evs.length }
noncomputable def xw (K:W.Frag) (t:Adr):Sp:=λ vs H Q _=>∃ G L A,vs=[.ref L.p]/\Th K t G H L A/\A.ws.length<=900 /\
 ∀ H',But [L.p,L.wr] H H'->Th K t G H' L A.wrote->Q .non H'
theorem xk (T:Txt K mg t):bB P w K mg base (CXr P w) 2 t.f_bb t.fd_bb ["self"] (xw K t):=by
 refine T.F_bb.okN zx (λ vs H Q E h=>?_) (λ cdv A outer s H vs Q E hr h=>?_)
 ·obtain⟨G,L,A,rfl,_⟩:=h;rfl
 ·obtain⟨G,L,A,rfl,th,few,k⟩:=h
  refine⟨_,(aH (bQ (bA (qY (K:=K)) (aU (pv 0) T.cl_Thread T.me_bq (dq (K:=K) T) (hr.mono (by decide)) T.b_bq .nil aK) (aO (K:=K) (pv 0) rfl) (by with_unfolding_all rfl))
    (aJ ug)
    bu)
   (aH (bh (cF (K:=K) Cc Cm Ck bM (aO (K:=K) (pv 0) rfl) (aI (aU (pv 0) T.cl_Thread T.me_bq (dq (K:=K) T) (hr.mono (by decide)) T.b_bq .nil aK) aG)))
   (aJ (bH (K:=K) (pv 0) (kJ (bj (aO (K:=K) (pv 0) rfl) T.cl_Never T.me_Never_down_by_writing (uA (K:=K) T) (hr.mono (by decide)) T.b_ab .nil aK (aI (aO (K:=K) (pv 0) rfl) (aI (aU (pv 0) T.cl_Thread T.me_bq (dq (K:=K) T) (hr.mono (by decide)) T.b_bq .nil aK) aG))) (kJ (bj (aO (K:=K) (pv 0) rfl) T.cl_Each T.me_Each_down_by_writing (uA (K:=K) T) (hr.mono (by decide)) T.b_ab .nil aK (aI (aO (K:=K) (pv 0) rfl) (aI (aU (pv 0) T.cl_Thread T.me_bq (dq (K:=K) T) (hr.mono (by decide)) T.b_bq .nil aK) aG))) (bj (aO (K:=K) (pv 0) rfl) T.cl_Bundle T.me_aa (xU (K:=K) T) (hr.mono (by decide)) T.b_aa .nil aK (aI (aO (K:=K) (pv 0) rfl) (aI (aU (pv 0) T.cl_Thread T.me_bq (dq (K:=K) T) (hr.mono (by decide)) T.b_bq .nil aK) aG))))) rfl)))),?_⟩
  obtain⟨es,hd,evs⟩:=th.done
  have fl:(iV A.ws).all dM=true:=by unfold iV;rw[EH];exact Dy.mpr λ _ _=>rfl
  refine⟨_,rfl,L.p,L.dx,_,rfl,th.self,rfl,L.p,L.dx,_,_,_,_,_,es,rfl,th.self,SqL.of hd,_,rfl,L.p,_,L.dx,_,.ref L.wr,rfl,th.self,T.cl_Thread,T.na_ap,rfl,L.wr,_,rfl,.inl (SqL.of th.dR),rfl,fl,_,rfl,?_⟩
  rw[BI (by simp),fL,evs.1]
  by_cases z:(A.evs.length:Int)∈A.ws
  ·rw[Cu z]
   refine dF (k H (But.of (aL.refl _)) ?_)
   unfold ThA.wrote;rw[BN z];exact th
  ·rw[CL z]
   refine gy ?_
   refine⟨_,rfl,L.p,_,L.dx,_,.ref L.wr,rfl,th.self,T.cl_Thread,T.na_ap,rfl,.inl ⟨rfl,_,SqL.of th.dR⟩,?_⟩
   refine⟨_,rfl,L.p,L.dx,_,rfl,th.self,rfl,L.p,L.dx,_,_,_,_,_,es,rfl,th.self,SqL.of hd,L.wr,_,_,rfl,rfl,th.dR,bg (by unfold iV;rw[BB];lia),?_⟩
   have npw:L.p≠L.wr:=dG th.self th.dR (by simp)
   have npd:L.p≠L.dn:=dG th.self hd (by simp)
   have eW:iV A.ws++[V.int es.length]=iV (A.ws++[(A.evs.length:Int)]):=by unfold iV;rw[B7,evs.1];rfl
   rw[eW]
   have hp1:upd H L.wr (.lst (iV (A.ws++[(A.evs.length:Int)]))) L.p=some (.ins t.c_Thread L.dx (thF A.first L.ha L.dn L.wr A.down)):=by rw[aE npw];exact th.self
   have hd1:upd H L.wr (.lst (iV (A.ws++[(A.evs.length:Int)]))) L.dn=some (.lst es):=by rw[aE th.ne];exact hd
   have habH:∀ b u,G b=some u->upd H L.wr (.lst (iV (A.ws++[(A.evs.length:Int)]))) b=some u:=λ b u z=>by
    rw[aE (aF z th.gw)];exact th.held _ _ z
   have len:(es.length:Int)=A.evs.length:=by rw[evs.1]
   have fin:∀ d',d'=A.hab.dR A.down A.evs.length->Q .non (upd (upd H L.wr (.lst (iV (A.ws++[(A.evs.length:Int)])))) L.p (.ins t.c_Thread L.dx (thF A.first L.ha L.dn L.wr d'))):=λ d' hd'=>by
    refine k _ (λ b u n q=>?_) ?_
    ·simp only[BF,BM,Ca,DW] at n
     rw[aE n.1,aE n.2];exact q
    ·unfold ThA.wrote
     rw[BI z]
     refine⟨?_,th.hab,⟨es,?_,evs⟩,?_,λ b u q=>?_,th.gp,th.gd,th.gw,th.ne⟩
     ·rw[aD,hd']
     ·rw[aE (Ne.symm npd)];exact hd1
     ·show upd (upd H L.wr _) L.p _ L.wr=_
      rw[aE (Ne.symm npw),aD]
     ·rw[aE (aF q th.gp)];exact habH _ _ q
   have hb:=th.hab
   cases hA:A.hab with
   | never=>
    rw[hA] at hb
    obtain⟨dxh,hh'⟩:=hb
    refine .inl ⟨_,rfl,L.p,_,L.dx,_,.ref L.ha,rfl,hp1,T.cl_Thread,T.na_bn,rfl,L.ha,dxh,_,rfl,habH _ _ hh',rfl,?_⟩
    refine⟨_,rfl,L.p,_,L.dx,_,.int A.down,rfl,hp1,T.cl_Thread,T.na_cb,rfl,?_⟩
    refine⟨_,rfl,L.p,L.dx,_,rfl,hp1,rfl,L.p,L.dx,_,_,_,_,_,_,rfl,hp1,SqL.of hd1,_,_,_,rfl,?_⟩
    exact⟨_,rfl,L.p,_,L.dx,_,rfl,hp1,T.cl_Thread,T.na_cb,ft,fin _ (by rw[hA];rfl)⟩
   | each=>
    rw[hA] at hb
    obtain⟨dxh,hh'⟩:=hb
    refine .inr (.inl ⟨_,rfl,L.p,_,L.dx,_,.ref L.ha,rfl,hp1,T.cl_Thread,T.na_bn,rfl,L.ha,dxh,_,rfl,habH _ _ hh',rfl,?_⟩)
    refine⟨_,rfl,L.p,_,L.dx,_,.int A.down,rfl,hp1,T.cl_Thread,T.na_cb,rfl,?_⟩
    refine⟨_,rfl,L.p,L.dx,_,rfl,hp1,rfl,L.p,L.dx,_,_,_,_,_,_,rfl,hp1,SqL.of hd1,_,_,_,rfl,?_⟩
    exact⟨_,rfl,L.p,_,L.dx,_,rfl,hp1,T.cl_Thread,T.na_cb,ft,fin _ (by rw[hA];rfl)⟩
   | bundle n=>
    rw[hA] at hb
    obtain⟨dxh,hh'⟩:=hb
    refine .inr (.inr ⟨_,rfl,L.p,_,L.dx,_,.ref L.ha,rfl,hp1,T.cl_Thread,T.na_bn,rfl,L.ha,dxh,_,rfl,habH _ _ hh',rfl,?_⟩)
    refine⟨_,rfl,L.p,_,L.dx,_,.int A.down,rfl,hp1,T.cl_Thread,T.na_cb,rfl,?_⟩
    refine⟨_,rfl,L.p,L.dx,_,rfl,hp1,rfl,L.p,L.dx,_,_,_,_,_,_,rfl,hp1,SqL.of hd1,_,_,_,rfl,?_⟩
    exact⟨_,rfl,L.p,_,L.dx,_,rfl,hp1,T.cl_Thread,T.na_cb,ft,fin _ (by rw[hA,len];rfl)⟩
theorem jg.same (s:aL G G') (h:jg t G ha hb):jg t G' ha hb:=by
 cases hb<;>exact let ⟨dx,z⟩:=h;⟨dx,s _ _ z⟩
theorem Th.keep (h:Th K t G H L A) (q:aL G G') (s':aL G' H') (j:∀ b o,b∈[L.p,L.dn,L.wr]->H b=some o->H' b=some o) (n:∀ b∈[L.p,L.dn,L.wr],G' b=none):Th K t G' H' L A:=by
 obtain⟨es,h1,h2⟩:=h.done
 exact⟨j _ _ (by simp) h.self,h.hab.same q,⟨es,j _ _ (by simp) h1,h2.same q⟩,j _ _ (by simp) h.dR,s',n _ (by simp),n _ (by simp),n _ (by simp),h.ne⟩
theorem wC (sG:aL G H) (Z:H e=none) (Y:H dxe=none) (U:upd (upd H dxe (.own e)) e (.ins t.c_Event dxe []) m1=none) (V:upd (upd H dxe (.own e)) e (.ins t.c_Event dxe []) m2=none) (J:m1≠m2)
  (O:∀ c,H5 c=if c=e then some (.ins t.c_Event dxe (evF v Ev.st m1 m2)) else if c=m1 then some (.lst xs) else if c=m2 then some (.lst ys) else upd (upd H dxe (.own e)) e (.ins t.c_Event dxe []) c)
  (r1:Rp K G v Ev.u) (r2:bR K G xs (Ev.se.map PyData.tuple)) (W:xs.length<=1000) (r3:bR K G ys Ev.sa):∃ G',fD H G G' H5/\aL H H5/\EvO K t G' e Ev:=by
 have sI:aL H (upd (upd H dxe (.own e)) e (.ins t.c_Event dxe [])):=aL.ins Z Y
 have j:m1≠e:=λ z=>by rw[z,aD] at U;cases U
 have F:m2≠e:=λ z=>by rw[z,aD] at V;cases V
 have L:∀ {c:Addr},upd (upd H dxe (.own e)) e (.ins t.c_Event dxe []) c=none->H c=none:=λ{c} z=>by
  cases q:H c with
  | none=>rfl
  | some u=>rw[sI _ _ q] at z;cases z
 have s5:aL H H5:=λ c u q=>by
  rw[O c,BI (aF q Z),BI (aF q (L U)),BI (aF q (L V))]
  exact sI _ _ q
 have g0:fD H G G H5:=⟨aL.refl _,sG.trans s5,λ _ _ z=>.inl z⟩
 have g1:=g0.freeze (o:=.lst xs) (L U) (by rw[O m1,BI j,BN rfl])
 have g2:=g1.freeze (o:=.lst ys) (L V) (by rw[O m2,BI F,BI (Ne.symm J),BN rfl])
 have M:=g2.freeze (o:=.ins t.c_Event dxe (evF v Ev.st m1 m2)) Z (by rw[O e,BN rfl])
 exact⟨_,M,s5,dxe,v,m1,m2,xs,ys,aD,r1.same M.sub,by rw[aE j,aE J,aD],r2.same M.sub,W,by rw[aE F,aD],r3.same M.sub⟩
noncomputable def yP:Sp:=λ vs H Q _=>∃ b x y z,vs=[.ref b]/\H b=some (.tup [.int x,.int y,.int z])/\∀ H',aL H H'->Q (.bl true) H'
theorem vd (T:Txt K mg t):bB P w K mg base (CXr P w) 2 t.f_da t.fd_da ["value"] yP:=by
 refine T.F_da.okN AI (λ vs H Q E h=>?_) (λ O A outer s H vs Q E U h=>?_)
 ·obtain⟨b,x,y,z,rfl,_⟩:=h;rfl
 ·obtain⟨b,x,y,z,rfl,L,k⟩:=h
  refine⟨_,(aH (bQ (PW.pt (fP (cY (cI (bP (dc (K:=K)) rfl T.no_isinstance dg (aI (pv 0) (aI (j5 (v:=.ty "tuple") rfl T.no_tuple oV rfl) aG))))) (gB (bA rN (bP (dH (K:=K)) rfl T.no_len lA (aI (pv 0) aG)) aN (bD _)))))
    (aJ (aR eZ))
    bu)
   (aJ (aR (bP (qg rfl (K:=K)) rfl T.no_all xP (aI (cC ["value","part"] 1 rfl (uo (K:=K) (pv 0)) (λ _ _ _ _ _=>⟨(bq (i:=1) (show List.Nodup (["value","part"]:List Str) from by decide +kernel) rfl (Or.inl rfl)),cP,(aV (kZ (K:=K) T) (U.mono (by decide)) rfl T.mg_cu T.kp_cu T.b_cu .nil aK (aI (pv 1) aG))⟩)) aG))))),?_⟩
  refine⟨_,rfl,_,_,.plain (.tup L),eY _ _,_,rfl,gy ⟨_,rfl,_,_,rfl,.inr (SqT.of L),rfl,_,rfl,cj (by simp) ?_⟩⟩
  refine⟨_,rfl,b,rfl,⟨_,SqT.of L⟩,rR (xs:=[.int x,.int y,.int z]) (by show 3<=1000;decide) λ acc G=>⟨λ i F ys H2=>ys=List.replicate i (V.bl true)/\H2 acc=some (.lst ys)/\aL H H2/\∃ o,F=[some (.ref b),o],⟨rfl,aD,aL.new G,_,rfl⟩,?_,?_,?_⟩⟩
  ·rintro i F ys H2 hi ⟨rfl,_,J,_⟩
   exact⟨J.tup (SqT.of L),by simp⟩
  ·rintro i v F ys H2 hi q ⟨rfl,M,J,o,rfl⟩
   obtain⟨j,rfl⟩:∃ j,v=.int j:=by
    match i,q with
    | 0,q=>exact⟨x,by simpa using q.symm⟩
    | 1,q=>exact⟨y,by simpa using q.symm⟩
    | 2,q=>exact⟨z,by simpa using q.symm⟩
    | n+3,q=>simp at q
   dsimp only[cH,gY]
   refine dF ⟨_,rfl,j,rfl,M,Nx.mk hi ⟨?_,aD,λ b u e=>?_,_,rfl⟩⟩
   ·rw[List.replicate_succ']
   ·rw[aE (aF e G)];exact J _ _ e
  ·rintro F ys H2 ⟨rfl,M,J,o,rfl⟩
   exact⟨acc,[true,true,true],rfl,SqL.of M,k H2 J⟩
noncomputable abbrev Nm3:=Int×Int×Int
noncomputable def cd3 (n:Nm3):Int:=n.1*1000000+n.2.1*1000+n.2.2
noncomputable def Small (n:Nm3):Prop:=0<=n.2.1/\n.2.1<1000/\0<=n.2.2/\n.2.2<1000
theorem ph (j:Small a) (q:Small b) (h:cd3 a=cd3 b):a=b:=by
 obtain⟨x,y,z⟩:=a
 obtain⟨F,G,J⟩:=b
 unfold cd3 at h
 unfold Small at j q
 dsimp only at h j q
 have:x=F:=by lia
 have:y=G:=by lia
 have:z=J:=by lia
 subst F;subst G;subst J;rfl
noncomputable def ky (l:List Nm3):Prop:=l.Pairwise λ a b=>cd3 a<cd3 b
theorem qK:∀ {a b:List Nm3},ky a->ky b->a.Perm b->a=b
 | [],b,_,_,h=>by rw[List.nil_perm] at h;exact h.symm
 | x::a,[],_,_,h=>by rw[List.perm_nil] at h;cases h
 | x::a,y::b,pa,pb,h=>by
  unfold ky at pa pb
  rw[DR] at pa pb
  have j:x∈y::b:=h.mem_iff.mp BR
  have q:y∈x::a:=h.mem_iff.mpr BR
  have e:x=y:=by
   rcases BF.mp j with e|j
   ·exact e
   ·rcases BF.mp q with e|q
    ·exact e.symm
    ·have:=pa.1 y q
     have:=pb.1 x j
     lia
  subst e
  rw[qK pa.2 pb.2 h.cons_inv]
noncomputable def nk (n:Nm3):List Key:=[.inl n.1,.inl n.2.1,.inl n.2.2]
noncomputable def nV (n:Nm3):List V:=[.int n.1,.int n.2.1,.int n.2.2]
structure cQ where
 (nm:Nm3) (adr:Addr) (to wd:Int)
structure DiL where
 (po ta wy:Addr)
structure DiA where
 po:List cQ
 ta:List (Nm3×Int)
 wy:List ((Int×Int)×Addr×List Nm3)
noncomputable def wk (k:Int×Int):List Key:=[.inl k.1,.inl k.2]
noncomputable def DiL.own (L:DiL) (A:DiA):List Addr:=[L.po,L.ta,L.wy]++A.wy.map (·.2.1)
structure Di (G H:Hp) (L:DiL) (A:DiA):Prop where
 po:H L.po=some (.dT (A.po.map λ l=>(nk l.nm,V.ref l.adr)))
 ta:H L.ta=some (.dT (A.ta.map λ e=>(nk e.1,V.int e.2)))
 wy:H L.wy=some (.dT (A.wy.map λ e=>(wk e.1,V.ref e.2.1)))
 ways:∀ e∈A.wy,H e.2.1=some (.dT (e.2.2.map λ n=>(nk n,V.bl true)))
 lets:∀ l∈A.po,G l.adr=some (.tup [.int l.to,.int l.wd])
 held:aL G H
 nd:(L.own A).Nodup
 gn:∀ b∈L.own A,G b=none
structure WfD (m:Int) (c:Int->Int) (A:DiA):Prop where
 nd:(A.po.map (·.nm)).Nodup
 nt:(A.ta.map (·.1)).Nodup
 tp:∀ e∈A.ta,∃ l∈A.po,l.nm=e.1/\e.2<=c l.to
 rg:∀ l∈A.po,0<=l.nm.1/\l.nm.1<m/\1<=l.nm.2.1/\l.nm.2.1<=c l.nm.1/\0<=l.nm.2.2/\l.nm.2.2<3/\0<=l.to/\l.to<m
 wn:(A.wy.map (·.1)).Nodup
 wi:∀ e∈A.wy,∀ n,n∈e.2.2↔∃ l∈A.po,l.nm=n/\n.1=e.1.1/\l.to=e.1.2/\n∉A.ta.map (·.1)
 wd:∀ e∈A.wy,e.2.2.Nodup
 wa:∀ l∈A.po,l.nm∉A.ta.map (·.1)->∃ e∈A.wy,e.1=(l.nm.1,l.to)
 t1:∀ e∈A.ta,1<=e.2
noncomputable def loF (dz:Addr) (many:Int) (ord:Bool) (lt lg:Addr) (D:DiL):List (Str×V):=
 [("does",.ref dz),("many",.int many),("ordered",.bl ord),("threads",.ref lt),("log",.ref lg),("posted",.ref D.po),("taken",.ref D.ta),("ways",.ref D.wy)]
noncomputable def x9 (t:Adr):Sp:=λ vs H Q _=>∃ p dx dz m o lt lg D h,vs=[.ref p,.int h]/\H p=some (.ins t.c_Loom dx (loF dz m o lt lg D))/\0<=h/\h<m/\Q .non H
theorem nU (T:Txt K mg t):bB P w K mg base (CXr P w) 2 t.f_am t.fd_am ["self","hand"] (x9 t):=by
 refine T.F_am.okN yt (λ vs H Q E h=>?_) (λ j A outer s H vs Q E G h=>?_)
 ·obtain⟨p,dx,q,m,o,L,J,D,h,rfl,_⟩:=h;rfl
 ·obtain⟨p,dx,q,m,o,L,J,D,h,rfl,F,h0,h1,k⟩:=h
  refine⟨_,(aJ (bQ (PW.pt (fP (cY (cI (aV (kZ (K:=K) T) (G.mono (by decide)) rfl T.mg_cu T.kp_cu T.b_cu .nil aK (aI (pv 1) aG)))) (fP (bA o9 (pv 1) aN (bD _)) (gB (bA oy (pv 1) (aO (K:=K) (pv 0) rfl) (bD _))))))
    (aJ il)
    bu)),?_⟩
  refine⟨_,rfl,h,rfl,true,rfl,gy ⟨_,rfl,_,_,rfl,rfl,_,rfl,cj (by simpa using h0) ⟨_,rfl,_,rfl,p,_,dx,_,_,rfl,F,T.cl_Loom,T.na_cs,rfl,_,_,rfl,rfl,_,rfl,cj (by simpa using h1) k⟩⟩⟩
noncomputable def vx (t:Adr):Sp:=λ vs H Q _=>∃ p dx dz m o lt lg D,∃ j:Nat,∃ r q qs xs dxq i ha dn wr d es,vs=[.ref p,.int j,.ref r]/\H p=some (.ins t.c_Loom dx (loF dz m o lt lg D))/\H lt=some (.lst qs)/\H lg=some (.lst xs)/\xs.length<=900/\qs[j]? = some (.ref q) /\
 H q=some (.ins t.c_Thread dxq (thF i ha dn wr d))/\H dn=some (.lst es)/\∀ e pl H',But [lg] H H'->H' lg=some (.lst (xs++[.ref e]))->H' e=some (.tup [.ref r,.int pl])->Q .non H'
theorem qM (T:Txt K mg t):bB P w K mg base (CXr P w) 2 t.f_aw t.fd_aw ["self","hand","row"] (vx t):=by
 refine T.F_aw.okN ym (λ vs H Q E h=>?_) (λ Z A outer s H vs Q E hr h=>?_)
 ·obtain⟨p,dx,dz,m,o,W,V,D,j,r,q,Y,xs,F,i,O,L,wr,d,es,rfl,_⟩:=h;rfl
 ·obtain⟨p,dx,dz,m,o,W,V,D,j,r,q,Y,xs,F,i,O,L,wr,d,es,rfl,U,hl,G,a1,hq,M,hd,k⟩:=h
  refine⟨_,(aJ (bh (cF (K:=K) Cc Cm Ck bM (aO (K:=K) (pv 0) rfl) (aI (cf (aI (pv 2) (aI (aU (bb (aZ (K:=K)) (aO (K:=K) (pv 0) rfl) (pv 1) (λ _ _=>rfl)) T.cl_Thread T.me_bq (dq (K:=K) T) (hr.mono (by decide)) T.b_bq .nil aK) aG))) aG)))),?_⟩
  refine⟨_,rfl,p,_,dx,_,_,rfl,U,T.cl_Loom,T.na_cy,rfl,.inl ⟨rfl,xs,SqL.of G⟩,_,rfl,?_⟩
  refine⟨_,rfl,p,_,dx,_,_,rfl,U,T.cl_Loom,T.na_bj,rfl,_,rfl,W,Y,j,.ref q,rfl,rfl,SqL.of hl,cM hq,q,F,_,rfl,M,rfl,?_⟩
  refine⟨q,F,i,O,L,wr,d,es,rfl,M,SqL.of hd,by show 2<=sizeLine;decide,λ b J=>?_⟩
  refine⟨V,xs,.ref b,rfl,rfl,by rw[aE (aF G J)];exact G,bg (by lia),k _ _ _ (λ c u n e=>?_) aD (by rw[aE (aF G J).symm];exact aD)⟩
  rw[aE (by simpa using n),aE (aF e J)];exact e
theorem ck {α κ:Type} [DecidableEq κ] (f:α->κ) (g:α->V):∀ {l:List α}{a:α},(l.map f).Nodup->a∈l->bL (l.map λ x=>(f x,g x)) (f a)=some (g a)
 | [],_,_,h=>by cases h
 | x::l,a,nd,h=>by
  rw[Ce] at nd ⊢
  obtain⟨n1,n2⟩:=CC.mp nd
  by_cases e:f x=f a
  ·rw[bZ e]
   rcases BF.mp h with rfl|h
   ·rfl
   ·exact absurd (show f x∈l.map f by rw[e];exact BX h) n1
  ·rw[bU e]
   rcases BF.mp h with rfl|h
   ·exact absurd rfl e
   ·exact ck f g n2 h
theorem fz [DecidableEq κ] (f:α->κ) (g:α->V):∀ {l:List α},(∀ x∈l,f x≠k)->bL (l.map λ x=>(f x,g x)) k=none
 | [],_=>rfl
 | x::l,h=>by
  rw[Ce,bU (h x BR)]
  exact fz f g λ y j=>h y (BQ _ j)
theorem cJ {q F G:Type}{f:q->F}{g:F->G}{l:List q}(j:∀ a b,g a=g b->a=b) (h:(l.map f).Nodup):(l.map λ x=>g (f x)).Nodup:=by
 unfold List.Nodup at h ⊢
 rw[C1] at h ⊢
 exact h.imp λ h e=>h (j _ _ e)
theorem uX {q F:Type}{g:q->F}{l:List q}(j:∀ a b,g a=g b->a=b) (h:l.Nodup):(l.map g).Nodup:=by
 unfold List.Nodup at h ⊢
 rw[C1]
 exact h.imp λ h e=>h (j _ _ e)
theorem cm (a b:Nm3) (h:nk a=nk b):a=b:=by
 obtain⟨x,y,z⟩:=a
 obtain⟨j,q,F⟩:=b
 simp only[nk,List.cons.injEq,Sum.inl.injEq] at h
 obtain⟨rfl,rfl,rfl,_⟩:=h
 rfl
theorem nC (a b:Int×Int) (h:wk a=wk b):a=b:=by
 obtain⟨x,y⟩:=a
 obtain⟨j,q⟩:=b
 simp only[wk,List.cons.injEq,Sum.inl.injEq] at h
 obtain⟨rfl,rfl,_⟩:=h
 rfl
theorem oI {H:Hp}{b:Addr}{n:Nm3}(h:H b=some (.tup (nV n))):Rp K H (.ref b) (.tuple [.int n.1,.int n.2.1,.int n.2.2]):=.tup (SqT.of h) (.cons (.int _) (.cons (.int _) (.cons (.int _) .nil)))
noncomputable def Ae (t:Adr):Sp:=λ vs H Q _=>∃ G p dx dz m o lt lg D A h b n e,vs=[.ref p,.int h,.ref b]/\H p=some (.ins t.c_Loom dx (loF dz m o lt lg D))/\Di G H D A/\H b=some (.tup (nV n))/\e∈A.wy/\(A.wy.map (·.1)).Nodup/\e.1=(n.1,h)/\n∈e.2.2/\e.2.2.Nodup/\(∀ m∈e.2.2,Small m)/\(o=true->∀ m∈e.2.2,cd3 n<=cd3 m) /\
 ∀ H',aL H H'->Q (.bl true) H'
theorem xI (T:Txt K mg t):bB P w K mg base (CXr P w) 3 t.f_bc t.fd_bc ["self","hand","name"] (Ae t):=by
 refine T.F_bc.okN uJ (λ vs H Q E h=>?_) (λ cdv A outer s H vs Q E hr h=>?_)
 ·obtain⟨G,p,dx,dz,m,o,lt,lg,D,A,h,b,n,e,rfl,_⟩:=h;rfl
 ·obtain⟨G,p,dx,dz,m,o,lt,lg,D,Di,h,b,n,e,rfl,hp,di,hb,he,wn,ek,hn,en,sm,od,k⟩:=h
  refine⟨_,(aH (bQ (cY (cI (aV (vd (K:=K) T) (hr.mono (by decide)) rfl T.mg_da T.kp_da T.b_da .nil aK (aI (pv 2) aG))))
    (aJ (aR eZ))
    bu)
   (aH (aW (i:=3) uJ.nd rfl (Or.inl rfl) (qB (cy hr) (aO (K:=K) (pv 0) rfl) (cf (aI (bb (bz (K:=K)) (pv 2) aN (λ _ _=>rfl)) (aI (pv 1) aG))) rH ⟨rfl,rfl,rfl,rfl⟩))
   (aH (bQ (iM (dP (cy hr) (pv 2) (pv 3)))
    (aJ (aR eZ))
    bu)
   (aJ (aR (AL (mM (aO (K:=K) (pv 0) rfl)) (iX (cU (oT (K:=K) hr.units) (pv 2) (bP (pZ rfl (cy hr)) rfl T.no_min vy (aI (pv 3) aG)) (bD _))))))))),?_⟩
  refine⟨_,rfl,b,n.1,n.2.1,n.2.2,rfl,hb,λ H1 s1=>⟨true,rfl,gy ?_⟩⟩
  refine⟨_,rfl,p,_,dx,_,_,rfl,s1 _ _ hp,T.cl_Loom,T.na_ct,rfl,D.wy,rfl,.inr ⟨_,.inl (s1 _ _ di.wy)⟩,?_⟩
  refine⟨_,rfl,b,nV n,0,.int n.1,rfl,rfl,SqT.of (s1 _ _ hb),b9,_,rfl,by show 2<=sizeLine;decide,λ q hq l hl=>?_⟩
  have s2:aL H (upd H1 q (.tup [.int n.1,.int h])):=s1.trans (aL.new hq)
  have s3:aL H (upd (upd H1 q (.tup [.int n.1,.int h])) l (.dK [])):=s2.trans (aL.new hl)
  have hq3:upd (upd H1 q (.tup [.int n.1,.int h])) l (.dK []) q=some (.tup ((wk (n.1,h)).map kV)):=by rw[aE (aF aD hl),aD];rfl
  have v1:bL (Di.wy.map λ e=>(wk e.1,V.ref e.2.1)) (wk (n.1,h))=some (.ref e.2.1):=by
   rw[<- ek]
   exact ck (λ e=>wk e.1) (λ e=>V.ref e.2.1) (cJ (f:=λ x:(Int×Int)×Addr×List Nm3=>x.1) nC wn) he
  have v2:bL (e.2.2.map λ n=>(nk n,V.bl true)) (nk n)=some (.bl true):=ck nk (λ _=>V.bl true) (uX cm en) hn
  refine⟨_,.inr ⟨_,wk (n.1,h),q,.inl (s3 _ _ di.wy),rfl,hq3,v1.symm⟩,?_⟩
  refine⟨_,rfl,_,rfl,e.2.1,_,rfl,.inr ⟨_,nk n,b,.inl (s3 _ _ (di.ways e he)),rfl,s3 _ _ hb,v2.symm⟩,_,rfl,gy ?_⟩
  refine⟨_,rfl,p,_,dx,_,_,rfl,s3 _ _ hp,T.cl_Loom,T.na_bi,rfl,o,rfl,_,rfl,?_⟩
  cases o with
  | false=>exact dF (k _ s3)
  | true=>
   refine gy ⟨_,rfl,_,rfl,e.2.1,_,e.2.2,rfl,.inl (s3 _ _ (di.ways e he)),?_,List.ne_nil_of_mem hn,sm,λ b' n' hn' le hb'=>?_⟩
   ·unfold uC
    rw[Cs]
    rfl
   ·have e1:=od rfl n' hn'
    have e2:=le n hn
    have en:n=n':=ph (sm n hn) (sm n' hn') (by unfold cd3 at e1 ⊢;unfold Tim.cO at e2;lia)
    subst en
    refine⟨_,_,oI (s3 _ _ hb),oI hb',rfl,rfl,?_⟩
    have:PyData.eqv (.tuple [.int n.1,.int n.2.1,.int n.2.2]) (.tuple [.int n.1,.int n.2.1,.int n.2.2])=true:=iH rfl
    show Q (.bl (PyData.eqv _ _)) _
    rw[this]
    exact k _ s3
noncomputable def cb (wy:List ((Int×Int)×Addr×List Nm3)) (k:Int×Int) (n:Nm3) (q:Addr):List ((Int×Int)×Addr×List Nm3):=
 if k∈wy.map (·.1) then wy.map (λ e=>if e.1=k then (e.1,e.2.1,e.2.2++[n]) else e) else wy++[(k,q,[n])]
noncomputable def DiA.jO (A:DiA) (n:Nm3) (adr:Addr) (to wd:Int) (q:Addr):DiA:={ A with po:=A.po++[⟨n,adr,to,wd⟩],wy:=cb A.wy (n.1,to) n q }
theorem jd:(cb wy k n q).map (·.1)=if k∈wy.map (·.1) then wy.map (·.1) else wy.map (·.1)++[k]:=by
 unfold cb
 by_cases h:k∈wy.map (·.1)
 ·rw[BN h,BN h,Cs]
  exact Cr λ e _=>by
   show (if e.1=k then (e.1,e.2.1,e.2.2++[n]) else e).1=e.1
   by_cases z:e.1=k
   ·rw[BN z]
   ·rw[BI z]
 ·rw[BI h,BI h,B7];rfl
theorem fA:e∈cb wy k n q->(∃ e0∈wy,e0.1=k/\e=(e0.1,e0.2.1,e0.2.2++[n]))\/(e∈wy/\e.1≠k)\/(k∉wy.map (·.1)/\e=(k,q,[n])):=by
 unfold cb
 by_cases h:k∈wy.map (·.1)
 ·rw[BN h,BV]
  rintro⟨e0,m,rfl⟩
  by_cases z:e0.1=k
  ·rw[BN z];exact .inl ⟨e0,m,z,rfl⟩
  ·rw[BI z];exact .inr (.inl ⟨m,z⟩)
 ·rw[BI h,BH,BD]
  rintro(m|rfl)
  ·exact .inr (.inl ⟨m,λ z=>h (by rw[<- z];exact BX m)⟩)
  ·exact .inr (.inr ⟨h,rfl⟩)
theorem WfD.jO {m:Int}{c:Int->Int}{A:DiA}(w:WfD m c A) {n:Nm3}{adr q:Addr}{to wd:Int}(hn:n∉A.po.map (·.nm))
  (r:0<=n.1/\n.1<m/\1<=n.2.1/\n.2.1<=c n.1/\0<=n.2.2/\n.2.2<3/\0<=to/\to<m):WfD m c (A.jO n adr to wd q):=by
 have nta:n∉A.ta.map (·.1):=λ z=>by
  obtain⟨e,he,rfl⟩:=BV.mp z
  obtain⟨l,hl,e1,_⟩:=w.tp e he
  exact hn (by rw[<- e1];exact BX hl)
 have nwy:∀ e∈A.wy,n∉e.2.2:=λ e he z=>by
  obtain⟨l,hl,e1,_⟩:=(w.wi e he n).mp z
  exact hn (by rw[<- e1];exact BX hl)
 refine⟨?_,w.nt,λ e he=>?_,λ l hl=>?_,?_,λ e he n'=>?_,λ e he=>?_,λ l hl nt=>?_,w.t1⟩
 ·show ((A.po++[(⟨n,adr,to,wd⟩:cQ)]).map cQ.nm).Nodup
  rw[B7]
  refine Cq.mpr ⟨w.nd,(by simp),λ a ha b hb=>?_⟩
  rw[Ed,BD] at hb
  rw[hb];exact λ z=>hn (by have z':a=n:=z;rw[<- z'];exact ha)
 ·obtain⟨l,hl,z⟩:=w.tp e he
  exact⟨l,BS _ hl,z⟩
 ·rcases BH.mp hl with hl|hl
  ·exact w.rg l hl
  ·rw[BD] at hl
   subst hl;exact r
 ·show ((cb A.wy (n.1,to) n q).map (·.1)).Nodup
  rw[jd]
  by_cases h:(n.1,to)∈A.wy.map (·.1)
  ·rw[BN h];exact w.wn
  ·rw[BI h]
   refine Cq.mpr ⟨w.wn,(by simp),λ a ha b hb=>?_⟩
   rw[BD] at hb
   rw[hb];exact λ z=>h (by rw[<- z];exact ha)
 ·have lift:(∃ l∈A.po++[⟨n,adr,to,wd⟩],l.nm=n'/\n'.1=e.1.1/\l.to=e.1.2/\n'∉A.ta.map (·.1))↔(∃ l∈A.po,l.nm=n'/\n'.1=e.1.1/\l.to=e.1.2/\n'∉A.ta.map (·.1))\/(n=n'/\n'.1=e.1.1/\to=e.1.2/\n'∉A.ta.map (·.1)):=by
   constructor
   ·rintro⟨l,hl,z⟩
    rcases BH.mp hl with hl|hl
    ·exact .inl ⟨l,hl,z⟩
    ·rw[BD] at hl
     subst hl;exact .inr z
   ·rintro(⟨l,hl,z⟩|z)
    ·exact⟨l,BS _ hl,z⟩
    ·exact⟨_,BG _ (BD.mpr rfl),z⟩
  show n'∈e.2.2↔∃ l∈A.po++[⟨n,adr,to,wd⟩],l.nm=n'/\n'.1=e.1.1/\l.to=e.1.2/\n'∉A.ta.map (·.1)
  rw[lift]
  rcases fA he with ⟨e0,m0,k0,rfl⟩|⟨m0,k0⟩|⟨nk0,rfl⟩
  ·rw[BH,BD,w.wi e0 m0 n']
   refine or_congr Iff.rfl ⟨?_,λ z=>z.1.symm⟩
   rintro rfl
   exact⟨rfl,by rw[k0],by rw[k0],nta⟩
  ·rw[w.wi e m0 n']
   constructor
   ·exact .inl
   ·rintro(z|⟨rfl,z1,z2,_⟩)
    ·exact z
    ·exact absurd (Prod.ext z1.symm z2.symm) k0
  ·rw[BD]
   constructor
   ·rintro rfl
    exact .inr ⟨rfl,rfl,rfl,nta⟩
   ·rintro(⟨l,hl,rfl,z1,z2,z3⟩|z)
    ·obtain⟨e1,he1,z4⟩:=w.wa l hl z3
     refine absurd ?_ nk0
     rw[BV]
     refine⟨e1,he1,?_⟩
     rw[z4]
     exact Prod.ext z1 z2
    ·exact z.1.symm
 ·rcases fA he with ⟨e0,m0,k0,rfl⟩|⟨m0,k0⟩|⟨nk0,rfl⟩
  ·refine Cq.mpr ⟨w.wd e0 m0,(by simp),λ a ha b hb=>?_⟩
   rw[BD] at hb
   rw[hb];exact λ z=>nwy e0 m0 (by rw[<- z];exact ha)
  ·exact w.wd e m0
  ·show ([n]:List Nm3).Nodup
   simp
 ·have keyIn:∀ k,(k∈A.wy.map (·.1)\/k=(n.1,to))->∃ e∈cb A.wy (n.1,to) n q,e.1=k:=λ k hk=>by
   have:k∈(cb A.wy (n.1,to) n q).map (·.1):=by
    rw[jd]
    by_cases h:(n.1,to)∈A.wy.map (·.1)
    ·rw[BN h]
     rcases hk with hk|rfl
     ·exact hk
     ·exact h
    ·rw[BI h,BH,BD];exact hk
   obtain⟨e,he,z⟩:=BV.mp this
   exact⟨e,he,z⟩
  rcases BH.mp hl with hl|hl
  ·obtain⟨e,he,z⟩:=w.wa l hl nt
   exact keyIn _ (.inl (by rw[<- z];exact BX he))
  ·rw[BD] at hl
   subst hl
   exact keyIn _ (.inr rfl)
theorem DiL.dX {L:DiL}{A:DiA}{e:(Int×Int)×Addr×List Nm3}(h:e∈A.wy):e.2.1∈L.own A:=BG _ (BX h)
theorem DiL.ou {L:DiL}{A:DiA}{b:Addr}(h:b∈L.own A):b=L.po\/b=L.ta\/b=L.wy\/∃ e∈A.wy,b=e.2.1:=by
 rcases BH.mp h with h|h
 ·simp only[BF,BM,Ca] at h
  rcases h with h|h|h
  ·exact .inl h
  ·exact .inr (.inl h)
  ·exact .inr (.inr (.inl h))
 ·obtain⟨e,j,rfl⟩:=BV.mp h
  exact .inr (.inr (.inr ⟨e,j,rfl⟩))
theorem Di.nes (d:Di G H L A):L.po≠L.ta/\L.po≠L.wy/\L.ta≠L.wy/\(∀ e∈A.wy,e.2.1≠L.po/\e.2.1≠L.ta/\e.2.1≠L.wy)/\∀ e∈A.wy,∀ F∈A.wy,e.2.1=F.2.1->e=F:=by
 have U:=d.nd
 unfold DiL.own at U
 obtain⟨q,W,O⟩:=Cq.mp U
 simp only[CC,BF,BM,Ca,DW] at q
 refine⟨q.1.1,q.1.2,q.2.1,λ e J=>?_,λ e J F M z=>?_⟩
 ·have m:e.2.1∈A.wy.map (·.2.1):=BX J
  exact⟨λ z=>O L.po (by simp) _ m z.symm,λ z=>O L.ta (by simp) _ m z.symm,λ z=>O L.wy (by simp) _ m z.symm⟩
 ·obtain⟨i,hi,rfl⟩:=B2 J
  obtain⟨j,V,rfl⟩:=B2 M
  have:i=j:=(C2 (l:=A.wy.map (·.2.1)) (by simpa using hi) W).mp (by rw[BC,BC,Bz hi,Bz V];exact congrArg some z)
  subst this;rfl
theorem Di.isd {G H:Hp}{L:DiL}{A:DiA}(d:Di G H L A) {b:Addr}(h:b∈L.own A):∃ kvs,H b=some (.dT kvs):=by
 rcases DiL.ou h with rfl|rfl|rfl|⟨e,j,rfl⟩
 ·exact⟨_,d.po⟩
 ·exact⟨_,d.ta⟩
 ·exact⟨_,d.wy⟩
 ·exact⟨_,d.ways e j⟩
theorem Di.frame {G H H':Hp}{L:DiL}{A:DiA}(d:Di G H L A) (j:∀ b o,b∈L.own A->H b=some o->H' b=some o) (F:aL G H'):Di G H' L A:=
 ⟨j _ _ (by unfold DiL.own;simp) d.po,j _ _ (by unfold DiL.own;simp) d.ta,j _ _ (by unfold DiL.own;simp) d.wy,λ e q=>j _ _ (DiL.dX q) (d.ways e q),d.lets,F,d.nd,d.gn⟩
theorem Di.zk {G H H':Hp}{L:DiL}{A:DiA}{x:cQ}(d:Di G H L A) (M:G x.adr=some (.tup [.int x.to,.int x.wd])) (h1:H' L.po=some (.dT ((A.po.map λ l=>(nk l.nm,V.ref l.adr))++[(nk x.nm,V.ref x.adr)])))
  (F:∀ b o,b≠L.po->b∈L.own A->H b=some o->H' b=some o) (J:aL G H'):Di G H' L { A with po:=A.po++[x] }:=by
 obtain⟨O,U,Y,W,_⟩:=d.nes
 refine⟨by rw[h1,B7];rfl,F _ _ (Ne.symm O) (by unfold DiL.own;simp) d.ta,F _ _ (Ne.symm U) (by unfold DiL.own;simp) d.wy,λ e q=>F _ _ (W e q).1 (DiL.dX q) (d.ways e q),λ l j=>?_,J,d.nd,d.gn⟩
 rcases BH.mp j with j|j
 ·exact d.lets l j
 ·rw[BD] at j;subst j;exact M
theorem Di.vF {G H H':Hp}{L:DiL}{A:DiA}{n:Nm3}{e0:(Int×Int)×Addr×List Nm3}(d:Di G H L A) (wn:(A.wy.map (·.1)).Nodup) (q:e0∈A.wy) (h1:H' e0.2.1=some (.dT ((e0.2.2.map λ n=>(nk n,V.bl true))++[(nk n,V.bl true)])))
  (J:∀ b o,b≠e0.2.1->b∈L.own A->H b=some o->H' b=some o) (hG:aL G H'):Di G H' L { A with wy:=cb A.wy e0.1 n 0 }:=by
 obtain⟨n1,n2,n3,Y,n5⟩:=d.nes
 have hk:e0.1∈A.wy.map (·.1):=BX q
 have ew:cb A.wy e0.1 n 0=A.wy.map (λ e=>if e.1=e0.1 then (e.1,e.2.1,e.2.2++[n]) else e):=by unfold cb;rw[BN hk]
 have M:∀ e:(Int×Int)×Addr×List Nm3,(if e.1=e0.1 then (e.1,e.2.1,e.2.2++[n]) else e).2.1=e.2.1/\(if e.1=e0.1 then (e.1,e.2.1,e.2.2++[n]) else e).1=e.1:=λ e=>by
  by_cases z:e.1=e0.1
  ·rw[BN z];exact⟨rfl,rfl⟩
  ·rw[BI z];exact⟨rfl,rfl⟩
 have Z:L.own { A with wy:=cb A.wy e0.1 n 0 }=L.own A:=by
  unfold DiL.own
  rw[ew,Cs]
  congr 1
  exact Cr λ e _=>(M e).1
 refine⟨J _ _ (λ z=>(Y e0 q).1 z.symm) (by unfold DiL.own;simp) d.po,J _ _ (λ z=>(Y e0 q).2.1 z.symm) (by unfold DiL.own;simp) d.ta,?_,λ e hm=>?_,d.lets,hG,by rw[Z];exact d.nd,by rw[Z];exact d.gn⟩
 ·show H' L.wy=some (.dT ((cb A.wy e0.1 n 0).map λ e=>(wk e.1,V.ref e.2.1)))
  rw[ew,Cs,J _ _ (λ z=>(Y e0 q).2.2 z.symm) (by unfold DiL.own;simp) d.wy]
  congr 2
  exact Cr λ e _=>by show _=(wk _,V.ref _);rw[(M e).1,(M e).2]
 ·have U:e∈cb A.wy e0.1 n 0:=hm
  rcases fA U with ⟨O,F,W,rfl⟩|⟨F,W⟩|⟨z,_⟩
  ·have:O=e0:=by
    obtain⟨i,hi,rfl⟩:=B2 F
    obtain⟨j,hj,rfl⟩:=B2 q
    have:i=j:=(C2 (l:=A.wy.map (·.1)) (by simpa using hi) wn).mp (by rw[BC,BC,Bz hi,Bz hj];exact congrArg some W)
    subst this;rfl
   subst this
   show H' O.2.1=some (.dT ((O.2.2++[n]).map λ n=>(nk n,V.bl true)))
   rw[h1,B7];rfl
  ·exact J _ _ (λ z=>W (by rw[n5 e F e0 q z])) (DiL.dX F) (d.ways e F)
  ·exact absurd hk z
theorem Di.wm {G H H':Hp}{L:DiL}{A:DiA}{n:Nm3}{q:Addr}{k:Int×Int}(d:Di G H L A) (nk0:k∉A.wy.map (·.1)) (nq:q∉L.own A) (gq:G q=none) (h1:H' L.wy=some (.dT ((A.wy.map λ e=>(wk e.1,V.ref e.2.1))++[(wk k,V.ref q)]))) (h2:H' q=some (.dT [(nk n,V.bl true)]))
  (kp:∀ b o,b≠L.wy->b∈L.own A->H b=some o->H' b=some o) (hG:aL G H'):Di G H' L { A with wy:=cb A.wy k n q }:=by
 obtain⟨n1,n2,n3,n4,n5⟩:=d.nes
 have ew:cb A.wy k n q=A.wy++[(k,q,[n])]:=by unfold cb;rw[BI nk0]
 have eo:L.own { A with wy:=cb A.wy k n q }=L.own A++[q]:=by
  unfold DiL.own
  rw[ew,B7,CI];rfl
 refine⟨kp _ _ n2 (by unfold DiL.own;simp) d.po,kp _ _ n3 (by unfold DiL.own;simp) d.ta,?_,λ e hm=>?_,d.lets,hG,?_,λ b hb=>?_⟩
 ·show H' L.wy=some (.dT ((cb A.wy k n q).map λ e=>(wk e.1,V.ref e.2.1)))
  rw[ew,B7,h1];rfl
 ·have hm':e∈cb A.wy k n q:=hm
  rw[ew] at hm'
  rcases BH.mp hm' with m2|m2
  ·exact kp _ _ (n4 e m2).2.2 (DiL.dX m2) (d.ways e m2)
  ·rw[BD] at m2;subst m2;exact h2
 ·rw[eo]
  refine Cq.mpr ⟨d.nd,by simp,λ a ha b hb=>?_⟩
  rw[BD] at hb
  rw[hb];exact λ z=>nq (by rw[<- z];exact ha)
 ·rw[eo] at hb
  rcases BH.mp hb with hb|hb
  ·exact d.gn b hb
  ·rw[BD] at hb;rw[hb];exact gq
theorem kT [DecidableEq α]:∀ {a b:List α},a.Nodup->(∀ x∈a,x∈b)->a.length<=b.length
 | [],_,_,_=>Cf _
 | x::a,b,nd,h=>by
  obtain⟨F,G⟩:=CC.mp nd
  have j:=h x BR
  have:=kT (b:=b.erase x) G λ y q=>(List.mem_erase_of_ne (λ z=>F (by rw[<- z];exact q))).mpr (h y (BQ _ q))
  rw[List.length_erase_of_mem j] at this
  have:=List.length_pos_of_mem j
  rw[Ci];lia
theorem rB [DecidableEq κ] (f:α->κ) (g:α->V):∀ {l:List α},bL (l.map λ x=>(f x,g x)) k=some v->∃ x∈l,f x=k/\v=g x
 | [],h=>by cases h
 | x::l,h=>by
  rw[Ce] at h
  by_cases e:f x=k
  ·rw[bZ e] at h
   cases h
   exact⟨x,BR,e,rfl⟩
  ·rw[bU e] at h
   obtain⟨y,j,z⟩:=rB f g h
   exact⟨y,BQ _ j,z⟩
theorem jI:(cb wy k n q).length<=wy.length+1:=by
 unfold cb
 by_cases h:k∈wy.map (·.1)
 ·rw[BN h,BB];lia
 ·rw[BI h,BL];simp
theorem lM {D:DiL}{A:DiA}{n:Nm3}{q adr b:Addr}{k:Int×Int}{po:List cQ}(h:b∈D.own { A with po:=po,wy:=cb A.wy k n q }):b∈D.own A\/(k∉A.wy.map (·.1)/\b=q):=by
 rcases DiL.ou h with rfl|rfl|rfl|⟨e,he,rfl⟩
 ·exact .inl (by unfold DiL.own;simp)
 ·exact .inl (by unfold DiL.own;simp)
 ·exact .inl (by unfold DiL.own;simp)
 ·have he':e∈cb A.wy k n q:=he
  rcases fA he' with ⟨e0,m0,_,rfl⟩|⟨m0,_⟩|⟨z,rfl⟩
  ·exact .inl (show e0.2.1∈D.own A from DiL.dX m0)
  ·exact .inl (DiL.dX m0)
  ·exact .inr ⟨z,rfl⟩
theorem oW (b:But S H H') (n:a∉S) (h:SqL K H a xs):SqL K H' a xs:=by
 rcases h with (h|⟨o,h⟩)|h
 ·exact .inl (.inl (b _ _ n h))
 ·exact .inl (.inr ⟨o,b _ _ n h⟩)
 ·exact .inr h
theorem gg (b:But S H H1) (h:a∈S\/H a=none):But S H (upd H1 a o):=λ c u n e=>by
 rw[aE]
 ·exact b c u n e
 ·rintro rfl
  rcases h with h|h
  ·exact n h
  ·rw[h] at e;cases e
noncomputable def y4 (K:W.Frag) (t:Adr):Sp:=λ vs H Q _=>∃ G p dx dz m o lt lg D A l,∃ s pl:Int,∃ xs:List (Addr×Int×Int),∃ m' c,vs=[.ref p,.int s,.int pl,.ref l]/\H p=some (.ins t.c_Loom dx (loF dz m o lt lg D))/\Di G H D A/\WfD m' c A/\p∉D.own A/\l∉D.own A /\
 SqL K H l (xs.map λ x=>V.ref x.1)/\xs.length<=3/\(∀ x∈xs,G x.1=some (.tup [.int x.2.1,.int x.2.2])/\0<=x.2.1/\x.2.1<m')/\0<=s/\s<m'/\1<=pl/\pl<=c s/\(∀ e∈A.po,e.nm.1=s->e.nm.2.1<pl)/\A.po.length<=900/\A.wy.length<=900 /\
 ∀ H' A',But (D.own A) H H'->Di G H' D A'->WfD m' c A'->A'.ta=A.ta->A'.po.length=A.po.length+xs.length->A'.wy.length<=A.wy.length+xs.length->(∀ b∈D.own A',b∈D.own A\/H b=none)->Q .non H'
theorem xQ (T:Txt K mg t):bB P w K mg base (CXr P w) 1 t.f_cm t.fd_cm ["self","sender","place","letters"] (y4 K t):=by
 refine T.F_cm.okN lU (λ vs H Q E h=>?_) (λ cdv A outer s H vs Q E hr h=>?_)
 ·obtain⟨G,p,dx,dz,m,o,lt,lg,D,A,l,s,pl,xs,m',c,rfl,_⟩:=h;rfl
 ·obtain⟨G,p,dx,dz,m,o,lt,lg,D,A,l,s,pl,xs,m',c,rfl,hp,di,wf,np,nl,hl,few,hx,s0,s1,pl0,pl1,new,f1,f2,k⟩:=h
  refine⟨_,(aJ (cZ PassesOwn.never rfl (ki (K:=K) rfl T.no_enumerate (aI (pv 3) aG)) (ig (K:=K) rfl (cW (bq (i:=4) lU.nd rfl (Or.inl rfl)) (cW (bq (i:=5) lU.nd rfl (Or.inl rfl)) hU)))
    (aH (aW (i:=6) lU.nd rfl (Or.inl rfl) (cf (aI (pv 1) (aI (pv 2) (aI (pv 4) aG)))))
   (aH (ij (cy hr) (aO (K:=K) (pv 0) rfl) (pv 6) (pv 5) rfl)
   (aJ (bQ (iM (dP (cy hr) (pv 6) (aO (K:=K) (pv 0) rfl)))
    (aH (aW (i:=7) lU.nd rfl (Or.inl rfl) (cF (K:=K) E2 PySem.F.slot_dict_setdefault PySem.F.type_dict_setdefault (mY (cy hr)) (aO (K:=K) (pv 0) rfl) (aI (cf (aI (pv 1) (aI (bb (bz (K:=K)) (pv 5) aN (λ _ _=>rfl)) aG))) (aI eH aG))))
   (aJ (ij (cy hr) (pv 7) (pv 6) eZ rfl)))
    bu)))))),?_⟩
  refine⟨_,rfl,l,_,rfl,hl,jb (xs:=xs.map λ x=>V.ref x.1)
   (λ i σ H2=>(∃ A2,But (D.own A) H H2/\Di G H2 D A2/\WfD m' c A2/\A2.ta=A.ta/\A2.po.length=A.po.length+i/\A2.wy.length<=A.wy.length+i/\(∀ b∈D.own A2,b∈D.own A\/H b=none)/\(∀ e∈A2.po,e.nm.1=s->e.nm.2.1<pl\/(e.nm.2.1=pl/\e.nm.2.2<i)))/\∃ a b c d,σ=[some (.ref p),some (.int s),some (.int pl),some (.ref l),a,b,c,d])
   ⟨⟨A,But.of (.refl _),di,wf,rfl,rfl,Nat.le_refl _,λ b hb=>.inl hb,λ e he z=>.inl (new e he z)⟩,_,_,_,_,rfl⟩ ?_ ?_ ?_⟩
  ·rintro i σ H2 hi ⟨⟨A2,bt,_⟩,_⟩
   exact oW bt nl hl
  ·rintro i x pe σ H2 hx' npe ⟨⟨A2,bt,d2,w2,e1,e2,e3,e4,e5⟩,a0,b0,c0,d0,rfl⟩
   obtain⟨y,hy,rfl⟩:∃ y,xs[i]? = some y/\x=.ref y.1:=by
    rw[BC] at hx'
    cases q:xs[i]? with
    | none=>rw[q] at hx';cases hx'
    | some y=>rw[q] at hx';cases hx';exact⟨y,rfl,rfl⟩
   have hi:i<xs.length:=(BE.mp hy).1
   obtain⟨ga,t0,t1⟩:=hx y (BJ hy)
   refine⟨pe,_,rfl,SqT.of aD,rfl,_,_,rfl,_,_,rfl,rfl,?_⟩
   refine⟨_,rfl,_,rfl,_,rfl,by show 3<=sizeLine;decide,λ nb hnb=>?_⟩
   let n:Nm3:=(s,pl,(i:Int))
   have s4:aL H2 (upd (upd H2 pe (.tup [.int i,.ref y.1])) nb (.tup [.int s,.int pl,.int i])):=(aL.new npe).trans (aL.new hnb)
   have hb4:upd (upd H2 pe (.tup [.int i,.ref y.1])) nb (.tup [.int s,.int pl,.int i]) nb=some (.tup ((nk n).map kV)):=aD
   have bt4:But (D.own A) H (upd (upd H2 pe (.tup [.int i,.ref y.1])) nb (.tup [.int s,.int pl,.int i])):=λ b u nn e=>s4 _ _ (bt b u nn e)
   have d4:Di G (upd (upd H2 pe (.tup [.int i,.ref y.1])) nb (.tup [.int s,.int pl,.int i])) D A2:=d2.frame (λ b u _ e=>s4 _ _ e) (λ b u e=>s4 _ _ (d2.held _ _ e))
   generalize upd (upd H2 pe (.tup [.int i,.ref y.1])) nb (.tup [.int s,.int pl,.int i])=H4 at hb4 bt4 d4 ⊢
   have hn:n∉A2.po.map (·.nm):=λ z=>by
    obtain⟨e,he,ez⟩:=BV.mp z
    rcases e5 e he (by rw[ez]) with q|⟨_,q⟩
    ·rw[ez] at q;exact absurd q (Int.lt_irrefl _)
    ·rw[ez] at q;exact absurd q (Int.lt_irrefl _)
   have v1:bL (A2.po.map λ l=>(nk l.nm,V.ref l.adr)) (nk n)=none:=fz (λ l:cQ=>nk l.nm) (λ l=>V.ref l.adr) λ e he z=>hn (by rw[<- cm _ _ z];exact BX he)
   have nta:∀ e∈A2.ta,nk e.1≠nk n:=λ e he z=>by
    obtain⟨l,hl,q,_⟩:=w2.tp e he
    exact hn (by rw[<- cm _ _ z,<- q];exact BX hl)
   refine⟨_,rfl,_,rfl,p,_,dx,_,_,rfl,bt4 _ _ np hp,T.cl_Loom,T.na_bz,rfl,_,rfl,D.po,_,rfl,.inr ⟨_,nk n,nb,d4.po,rfl,hb4,bg (by rw[BB];lia),rfl⟩,?_⟩
   rw[fX _ v1]
   have nbo:∀ b,b∈D.own A2->nb≠b:=λ b hb z=>by
    obtain⟨kvs,q⟩:=d4.isd hb
    rw[<- z,hb4] at q;cases q
   obtain⟨m1,m2,m3,m4,m5⟩:=d4.nes
   have poI:D.po∈D.own A2:=by unfold DiL.own;simp
   have wyI:D.wy∈D.own A2:=by unfold DiL.own;simp
   have d5:=d4.zk (x:=⟨n,y.1,y.2.1,y.2.2⟩) (H':=upd H4 D.po (.dT ((A2.po.map λ l=>(nk l.nm,V.ref l.adr))++[(nk n,V.ref y.1)]))) ga aD (λ b u nn _ e=>by rw[aE nn];exact e) (λ b u e=>by rw[aE (aF e (d4.gn _ poI))];exact d4.held _ _ e)
   have hb5:upd H4 D.po (.dT ((A2.po.map λ l=>(nk l.nm,V.ref l.adr))++[(nk n,V.ref y.1)])) nb=some (.tup ((nk n).map kV)):=by rw[aE (nbo _ poI)];exact hb4
   have bt5:But (D.own A) H (upd H4 D.po (.dT ((A2.po.map λ l=>(nk l.nm,V.ref l.adr))++[(nk n,V.ref y.1)]))):=gg bt4 (e4 _ poI)
   generalize upd H4 D.po (.dT ((A2.po.map λ l=>(nk l.nm,V.ref l.adr))++[(nk n,V.ref y.1)]))=H5 at d5 hb5 bt5 ⊢
   refine⟨_,rfl,_,rfl,p,_,dx,_,_,rfl,bt5 _ _ np hp,T.cl_Loom,T.na_ck,rfl,D.ta,none,rfl,.inr ⟨_,nk n,nb,.inl d5.ta,rfl,hb5,(fz (λ e:Nm3×Int=>nk e.1) (λ e=>V.int e.2) nta).symm⟩,_,rfl,dF ?_⟩
   refine⟨_,rfl,p,_,dx,_,_,rfl,bt5 _ _ np hp,T.cl_Loom,T.na_ct,rfl,.inr (.inr (.inl ⟨rfl,.inr ⟨_,d5.wy⟩⟩)),_,rfl,_,rfl,y.1,_,0,.int y.2.1,rfl,rfl,SqT.of (d5.held _ _ ga),b9,by show 2<=sizeLine;decide,λ kb hkb q hq=>?_⟩
   have s7:aL H5 (upd (upd H5 kb (.tup [.int s,.int y.2.1])) q (.dT [])):=(aL.new hkb).trans (aL.new hq)
   have hq5:H5 q=none:=(aL.new hkb).free hq
   have hk7:upd (upd H5 kb (.tup [.int s,.int y.2.1])) q (.dT []) kb=some (.tup ((wk (s,y.2.1)).map kV)):=by rw[aE (aF aD hq),aD];rfl
   have hb7:=s7 _ _ hb5
   have bt7:But (D.own A) H (upd (upd H5 kb (.tup [.int s,.int y.2.1])) q (.dT [])):=λ b u nn e=>s7 _ _ (bt5 b u nn e)
   have d7:Di G (upd (upd H5 kb (.tup [.int s,.int y.2.1])) q (.dT [])) D { A2 with po:=A2.po++[⟨n,y.1,y.2.1,y.2.2⟩] }:=d5.frame (λ b u _ e=>s7 _ _ e) (λ b u e=>s7 _ _ (d5.held _ _ e))
   have qq:upd (upd H5 kb (.tup [.int s,.int y.2.1])) q (.dT []) q=some (.dT []):=aD
   have hqo:q∉D.own A2:=λ z=>by
    obtain⟨kvs,e⟩:=d5.isd z
    rw[hq5] at e;cases e
   have hqH:H q=none\/q∈D.own A:=by
    cases e:H q with
    | none=>exact .inl rfl
    | some u=>
     by_cases z:q∈D.own A
     ·exact .inr z
     ·rw[bt5 _ _ z e] at hq5;cases hq5
   generalize upd (upd H5 kb (.tup [.int s,.int y.2.1])) q (.dT [])=H7 at hk7 hb7 bt7 d7 qq ⊢
   have r:0<=n.1/\n.1<m'/\1<=n.2.1/\n.2.1<=c n.1/\0<=n.2.2/\n.2.2<3/\0<=y.2.1/\y.2.1<m':=⟨s0,s1,pl0,pl1,Int.natCast_nonneg i,by show (i:Int)<3;lia,t0,t1⟩
   have e5':∀ e∈A2.po++[(⟨n,y.1,y.2.1,y.2.2⟩:cQ)],e.nm.1=s->e.nm.2.1<pl\/(e.nm.2.1=pl/\e.nm.2.2<((i+1:Nat):Int)):=λ e he z=>by
    rcases BH.mp he with he|he
    ·rcases e5 e he z with z|⟨z1,z2⟩
     ·exact .inl z
     ·exact .inr ⟨z1,by lia⟩
    ·rw[BD] at he
     subst he
     exact .inr ⟨rfl,by show (i:Int)<_;lia⟩
   refine⟨D.wy,kb,_,wk (s,y.2.1),.ref q,rfl,rfl,d7.wy,hk7,bg (by rw[BB];show A2.wy.length<=1000;lia),λ v hv=>?_,λ hv=>?_⟩
   ·obtain⟨e0,he0,k0,rfl⟩:=rB (λ e:(Int×Int)×Addr×List Nm3=>wk e.1) (λ e=>V.ref e.2.1) hv
    have k0:=nC _ _ k0
    have he0:e0∈A2.wy:=he0
    have kin:(s,y.2.1)∈A2.wy.map (·.1):=by rw[<- k0];exact BX he0
    have v2:bL (e0.2.2.map λ n=>(nk n,V.bl true)) (nk n)=none:=fz nk (λ _=>V.bl true) λ z hz e=>by
     obtain⟨l,hl,q1,_⟩:=(w2.wi e0 he0 z).mp hz
     exact hn (by rw[<- cm _ _ e,<- q1];exact BX hl)
    have way:=d7.ways e0 he0
    have lenw:e0.2.2.length<=A2.po.length:=by
     have:=kT (b:=A2.po.map (·.nm)) (w2.wd e0 he0) λ z hz=>by
      obtain⟨l,hl,q1,_⟩:=(w2.wi e0 he0 z).mp hz
      rw[<- q1];exact BX hl
     rwa [BB] at this
    refine⟨_,rfl,_,rfl,e0.2.1,_,rfl,.inr ⟨_,nk n,nb,way,rfl,hb7,bg (by rw[BB];lia),rfl⟩,?_⟩
    rw[fX _ v2]
    have own0:e0.2.1∈D.own A2:=DiL.dX he0
    have d9:=d7.vF (n:=n) (e0:=e0) (H':=upd H7 e0.2.1 (.dT ((e0.2.2.map λ n=>(nk n,V.bl true))++[(nk n,V.bl true)]))) w2.wn he0 aD (λ b u nn _ e=>by rw[aE nn];exact e) (λ b u e=>by rw[aE (aF e (d7.gn _ own0))];exact d7.held _ _ e)
    rw[k0] at d9
    refine⟨⟨A2.jO n y.1 y.2.1 y.2.2 0,gg bt7 (e4 _ own0),d9,w2.jO hn r,e1,?_,?_,λ b hb=>?_,e5'⟩,_,_,_,_,rfl⟩
    ·show (A2.po++[_]).length=_
     rw[BL,e2];rfl
    ·have:=jI (wy:=A2.wy) (k:=(s,y.2.1)) (n:=n) (q:=0)
     show (cb A2.wy (s,y.2.1) n 0).length<=_
     lia
    ·rcases lM (adr:=y.1) hb with hb|⟨z,_⟩
     ·exact e4 b hb
     ·exact absurd kin z
   ·have nin:(s,y.2.1)∉A2.wy.map (·.1):=λ z=>by
     obtain⟨e,he,q1⟩:=BV.mp z
     refine rJ hv ?_
     rw[Cs]
     exact BV.mpr ⟨e,he,by show wk e.1=_;rw[q1]⟩
    have qwy:q≠D.wy:=λ z=>hqo (by rw[z];exact wyI)
    have nbwy:nb≠D.wy:=nbo _ wyI
    have nbq:nb≠q:=λ z=>by rw[z] at hb5;rw[hq5] at hb5;cases hb5
    refine⟨_,rfl,_,rfl,q,_,rfl,.inr ⟨[],nk n,nb,by rw[aE qwy];exact qq,rfl,by rw[aE nbwy];exact hb7,by decide,rfl⟩,?_⟩
    rw[fX _ qy,List.nil_append]
    have gq:G q=none:=by
     cases e:G q with
     | none=>rfl
     | some u=>rw[d5.held _ _ e] at hq5;cases hq5
    have d9:=d7.wm (n:=n) (q:=q) (k:=(s,y.2.1)) (H':=upd (upd H7 D.wy (.dT ((A2.wy.map λ e=>(wk e.1,V.ref e.2.1))++[(wk (s,y.2.1),V.ref q)]))) q (.dT [(nk n,V.bl true)])) nin hqo gq (by rw[aE (Ne.symm qwy),aD]) aD (λ b u nn ho e=>by rw[aE (λ z=>hqo (by rw[<- z];exact ho)),aE nn];exact e) (λ b u e=>by rw[aE (aF e gq),aE (aF e (d7.gn _ wyI))];exact d7.held _ _ e)
    refine⟨⟨A2.jO n y.1 y.2.1 y.2.2 q,gg (gg bt7 (e4 _ wyI)) hqH.symm,d9,w2.jO hn r,e1,?_,?_,λ b hb=>?_,e5'⟩,_,_,_,_,rfl⟩
    ·show (A2.po++[_]).length=_
     rw[BL,e2];rfl
    ·have:=jI (wy:=A2.wy) (k:=(s,y.2.1)) (n:=n) (q:=q)
     show (cb A2.wy (s,y.2.1) n q).length<=_
     lia
    ·rcases lM (adr:=y.1) hb with hb|⟨_,rfl⟩
     ·exact e4 b hb
     ·exact hqH.symm
  ·rintro σ H2 ⟨⟨A2,bt,d2,w2,e1,e2,e3,e4,e5⟩,_⟩
   rw[BB] at e2 e3
   exact k H2 A2 bt d2 w2 e1 e2 e3 e4
noncomputable def oK (ns:List Int) (k:Int):Int:=(ns[k.toNat]?).getD 0
noncomputable def m8 (K:W.Frag):Sp:=λ vs H Q _=>∃ a ns k,vs=[.ref a,.int k]/\SqL K H a (iV ns)/\0<=k/\∀ c:Int,c=oK ns k->Q (.int c) H
theorem ip (T:Txt K mg t):bB P w K mg base (CXr P w) 1 t.f_bd t.fd_bd ["_law_script","_law_k"] (m8 K):=by
 refine T.F_bd.okN zd (λ vs H Q E h=>?_) (λ L A outer s H vs Q E M h=>?_)
 ·obtain⟨a,F,k,rfl,_⟩:=h;rfl
 ·obtain⟨a,F,k,rfl,J,h0,q⟩:=h
  refine⟨_,(aH (bQ (bA o9 (pv 1) (bP (dH (K:=K)) rfl T.no_len lA (aI (pv 0) aG)) (bD _))
    (aJ (aR (bb (aZ (K:=K)) (pv 0) (pv 1) (λ _ _=>rfl))))
    bu)
   (aJ (aR aN))),?_⟩
  refine⟨_,rfl,_,rfl,a,_,rfl,.inl J,_,_,rfl,rfl,_,rfl,eC (λ z=>?_) λ z=>q 0 ?_⟩
  ·have G:k<(iV F).length:=CN z
   have j:k.toNat<F.length:=by unfold iV at G;rw[BB] at G;lia
   refine⟨_,rfl,_,rfl,a,_,k,.int F[k.toNat],rfl,rfl,J,?_,q _ ?_⟩
   ·unfold atI ixN
    rw[BN h0,BN G]
    show (iV F)[k.toNat]? = _
    unfold iV
    rw[BC,Bz j]
    rfl
   ·unfold oK;rw[Bz j];rfl
  ·have G:¬ k<(iV F).length:=λ y=>z (Cu y)
   have j:F.length<=k.toNat:=by unfold iV at G;rw[BB] at G;lia
   unfold oK;rw[Cv j];rfl
noncomputable def x6 (c k b:Int):Int:=
 let x:=(c+7919*k+1)*48271%2147483647
 let y:=x*(x/1009+69621)%2147483647
 y*(y/2003+40692)%2147483399%b
noncomputable def rq (c b:Int) (i:Nat):Int:=Nat.repeat (λ r=>r/b) i (c/2)
noncomputable def nE (c k b:Int):Int:=if c%2=1/\rq c b k.toNat>0 then rq c b k.toNat%b else x6 c k b
noncomputable def vo:Sp:=λ vs H Q _=>∃ c k b:Int,vs=[.int c,.int k,.int b]/\0<=k/\k<=900/\0<b/\b<=10000/\∀ d:Int,d=nE c k b->0<=d->d<b->Q (.int d) H
theorem nP (T:Txt K mg t):bB P w K mg base (CXr P w) 1 t.f_cd t.fd_cd ["_law_cell","_law_k","_law_base"] vo:=by
 refine T.F_cd.okN jX (λ vs H Q E h=>?_) (λ O A outer s H vs Q E Z h=>?_)
 ·obtain⟨c,k,b,rfl,_⟩:=h;rfl
 ·obtain⟨c,k,b,rfl,k0,k1,G,Y,L⟩:=h
  refine⟨_,(aH (bQ (bA i4 (ba b7 (pv 0) aN) aN (bD _))
    (aH (aW (i:=3) jX.nd rfl (Or.inl rfl) (ba cp (pv 0) aN))
   (aH (cZ PassesOwn.never rfl (bS rfl T.no_range (aI (pv 1) aG)) (bq (i:=4) jX.nd rfl (Or.inl rfl))
    (aJ (aW (i:=3) jX.nd rfl (Or.inl rfl) (ba cp (pv 3) (pv 2)))))
   (aJ (bQ (bA oR (pv 3) aN (bD _))
    (aJ (aR (ba b7 (pv 3) (pv 2))))
    bu))))
    bu)
   (aH (aW (i:=5) jX.nd rfl (Or.inl rfl) (ba b7 (ba fM (ba da (ba da (pv 0) (ba fM aN (pv 1))) aN) aN) aN))
   (aH (aW (i:=5) jX.nd rfl (Or.inl rfl) (ba b7 (ba fM (pv 5) (ba da (ba cp (pv 5) aN) aN)) aN))
   (aJ (aR (ba b7 (ba b7 (ba fM (pv 5) (ba da (ba cp (pv 5) aN) aN)) aN) (pv 2))))))),?_⟩
  have M:∀ x:Int,-(2 ^ 64)<x%2147483647/\x%2147483647<2 ^ 64:=λ x=>by
   have h1:=CM x (b:=2147483647) (by decide)
   have h2:=Cz x (b:=2147483647) (by decide)
   lia
  have rest:∀ q F J:Option V,nE c k b=x6 c k b->ja
   (pM
    (tOp (rI (λ x j=>0<j) λ i j=>V.int (i%j))
     (tOp (rI lE λ i j=>V.int (i*j))
      (tOp (rI0 λ i j=>V.int (i+j))
       (tOp (rI0 λ i j=>V.int (i+j)) (cN 0)
        (tOp (rI lE λ i j=>V.int (i*j)) (tC (V.int 7919)) (cN 1)))
       (tC (V.int 1)))
      (tC (V.int 48271)))
     (tC (V.int 2147483647)))
    (cH 5))
   (ja
    (pM
     (tOp (rI (λ x j=>0<j) λ i j=>V.int (i%j))
      (tOp (rI lE λ i j=>V.int (i*j)) (cN 5)
       (tOp (rI0 λ i j=>V.int (i+j)) (tOp (rI mf λ i j=>V.int (i/j)) (cN 5) (tC (V.int 1009)))
        (tC (V.int 69621))))
      (tC (V.int 2147483647)))
     (cH 5))
    (qZ
     (tOp (rI (λ x j=>0<j) λ i j=>V.int (i%j))
      (tOp (rI (λ x j=>0<j) λ i j=>V.int (i%j))
       (tOp (rI lE λ i j=>V.int (i*j)) (cN 5)
        (tOp (rI0 λ i j=>V.int (i+j)) (tOp (rI mf λ i j=>V.int (i/j)) (cN 5) (tC (V.int 2003)))
         (tC (V.int 40692))))
       (tC (V.int 2147483399)))
      (cN 2))))
   { nx:=λ x H'=>Q V.non H',rt:=Q } [some (.int c),some (.int k),some (.int b),q,F,J] H:=λ q F J U=>by
   refine⟨_,rfl,_,rfl,_,_,rfl,rfl,.inl ⟨by decide,by decide⟩,_,_,rfl,rfl,_,_,rfl,rfl,_,_,rfl,rfl,.inr ⟨by decide,by decide⟩,_,_,rfl,rfl,by show (0:Int)<2147483647;decide,?_⟩
   refine⟨_,rfl,_,rfl,_,_,rfl,rfl,⟨by decide,by decide⟩,_,_,rfl,rfl,_,_,rfl,rfl,.inl (M _),_,_,rfl,rfl,by show (0:Int)<2147483647;decide,?_⟩
   refine⟨_,rfl,_,rfl,_,_,rfl,rfl,⟨by decide,by decide⟩,_,_,rfl,rfl,_,_,rfl,rfl,.inl (M _),_,_,rfl,rfl,by show (0:Int)<2147483399;decide,_,rfl,_,_,rfl,rfl,G,?_⟩
   exact L _ U.symm (CM _ (by lia)) (Cz _ G)
  refine⟨_,rfl,_,_,rfl,rfl,by show (0:Int)<2;decide,rfl,_,rfl,eC (λ z=>?_) λ z=>rest _ _ _ ?_⟩
  rotate_left
  ·unfold nE;rw[BI λ y=>z (by show decide (V.int (c%2)=V.int 1)=true;rw[y.1];rfl)]
  have W:c%2=1:=by simpa using z
  refine⟨_,rfl,_,_,rfl,rfl,⟨by decide,by decide⟩,?_⟩
  refine⟨_,rfl,k,rfl,by lia,by lia,cS (lo:=0) (λ i σ H'=>H'=H/\∃ (q F:Option V),σ=[some (.int c),some (.int k),some (.int b),some (.int (rq c b i)),q,F]) ⟨rfl,_,_,rfl⟩ ?_ ?_⟩
  ·rintro i σ H' hi ⟨rfl,q,F,rfl⟩
   exact⟨_,rfl,_,rfl,_,_,rfl,rfl,⟨G,by lia⟩,rfl,_,_,rfl⟩
  ·rintro σ H' ⟨rfl,q,F,rfl⟩
   refine⟨_,rfl,_,_,rfl,rfl,_,rfl,eC (λ y=>⟨_,rfl,_,rfl,_,_,rfl,rfl,G,L _ ?_ (CM _ (by lia)) (Cz _ G)⟩) λ y=>rest _ _ _ ?_⟩
   ·unfold nE;rw[BN ⟨W,by simpa using y⟩]
   ·unfold nE;rw[BI λ x=>y (by simpa using x.2)]
theorem qf:∃ j,mS (iV ns) lo hi=iV j/\j.length<=ns.length:=by
 refine⟨(ns.drop (HT.sIx (iV ns).length 0 lo)).take (HT.sIx (iV ns).length (iV ns).length hi-HT.sIx (iV ns).length 0 lo),?_,?_⟩
 ·unfold mS iV
  rw[List.map_take,List.map_drop]
 ·rw[CB,E5];lia
noncomputable def uK (K:W.Frag):Sp:=λ vs H Q _=>∃ c m h st:Int,∃ v,vs=[.int c,.int m,.int h,.int st,v]/\2<=m/\m<=10/\0<=h/\h<m/\(v=.non\/∃ wd,v=.int wd) /\
 ∀ (H':Hp) (r:Addr) (st':Int) (l1 l2:Addr) (ls:List (Addr×Int×Int)) (ws:List Int),aL H H'->H' r=some (.tup [.int st',.ref l1,.ref l2])->H' l1=some (.lst (ls.map λ x:Addr×Int×Int=>V.ref x.1))->ls.length<=3->(∀ x∈ls,H' x.1=some (.tup [.int x.2.1,.int x.2.2])/\0<=x.2.1/\x.2.1<m)->H' l2=some (.lst (iV ws))->ws.length<=10->Q (.ref r) H'
theorem AJ (T:Txt K mg t):bB P w K mg base (CXr P w) 2 t.f_cv t.fd_cv ["_law_cell","_law_many","_law_hand","_law_state","_law_word"] (uK K):=by
 refine T.F_cv.okN jJ (λ vs H Q E h=>?_) (λ cdv A outer s H vs Q E hr h=>?_)
 ·obtain⟨c,m,h,st,v,rfl,_⟩:=h;rfl
 ·obtain⟨c,m,h,st,v,rfl,m0,m1,h0,h1,hv,k⟩:=h
  refine⟨_,(aH (aW (i:=5) jJ.nd rfl (Or.inl rfl) (ba fM (ba da (ba fM (pv 2) aN) (ba b7 (pv 3) aN)) aN))
   (aH (bQ (bA kD (pv 4) gJ (bD _))
    (aJ (aW (i:=5) jJ.nd rfl (Or.inl rfl) (ba da (ba da (pv 5) aN) (ba b7 (pv 4) aN))))
    bu)
   (aH (aW (i:=6) jJ.nd rfl (Or.inl rfl) (aV (nP (K:=K) T) (hr.mono (by decide)) rfl T.mg_cd T.kp_cd T.b_cd .nil aK (aI (pv 0) (aI (pv 5) (aI aN aG)))))
   (aH (aW (i:=7) jJ.nd rfl (Or.inl rfl) (cG aG))
   (aH (cZ PassesOwn.never rfl (bS rfl T.no_range (aI (ba b7 (ba cp (pv 6) aN) aN) aG)) (bq (i:=8) jJ.nd rfl (Or.inl rfl))
    (aJ (bh (cF (K:=K) Cc Cm Ck bM (pv 7) (aI (cf (aI (ba b7 (ba da (ba cp (pv 6) aN) (ba fM (pv 8) (ba cp (pv 6) aN))) (pv 1)) (aI (ba da (ba cp (pv 6) aN) (pv 8)) aG))) aG)))))
   (aJ (aR (cf (aI (ba b7 (pv 6) aN) (aI (pv 7) (aI (sQ (ro (K:=K)) (cG (aI (ba cp (pv 6) aN) aG)) tR (ue (bX qj rfl T.no_int ve (aI (cU i4 (ba b7 (pv 6) aN) aN (bD _)) aG)))) aG))))))))))),?_⟩
  have key:∀ at':Int,0<=at'->at'<=900->ja
    (pM (uE vo [] ER0 (dm (cN 0) (dm (cN 5) (dm (tC (V.int 3000)) iR)))) (cH 6))
    (ja (pM (wt iR) (cH 7))
     (ja
      (A7
       (vh
        (dm
         (tOp (rI (λ x j=>0<j) λ i j=>V.int (i%j))
          (tOp (rI mf λ i j=>V.int (i/j)) (cN 6) (tC (V.int 6))) (tC (V.int 4)))
         iR))
       (cH 8)
       (vc
        (tBM K "list" n6 (cN 7)
         (dm
          (vB
           (dm
            (tOp (rI (λ x j=>0<j) λ i j=>V.int (i%j))
             (tOp (rI0 λ i j=>V.int (i+j))
              (tOp (rI mf λ i j=>V.int (i/j)) (cN 6) (tC (V.int 24)))
              (tOp (rI lE λ i j=>V.int (i*j)) (cN 8)
               (tOp (rI mf λ i j=>V.int (i/j)) (cN 6) (tC (V.int 120)))))
             (cN 1))
            (dm
             (tOp (rI0 λ i j=>V.int (i+j))
              (tOp (rI mf λ i j=>V.int (i/j)) (cN 6) (tC (V.int 7))) (cN 8))
             iR)))
          iR))))
      (qZ
       (vB
        (dm (tOp (rI (λ x j=>0<j) λ i j=>V.int (i%j)) (cN 6) (tC (V.int 6)))
         (dm (cN 7)
          (dm
           (tSl (v5 K) (wt (dm (tOp (rI mf λ i j=>V.int (i/j)) (cN 6) (tC (V.int 5))) iR))
            oM
            (vp
             (tCB uW
              (dm
               (tOp rEq (tOp (rI (λ x j=>0<j) λ i j=>V.int (i%j)) (cN 6) (tC (V.int 4)))
                (tC (V.int 0)))
               iR))))
           iR))))))) { nx:=λ x H'=>Q V.non H',rt:=Q } [some (.int c),some (.int m),some (.int h),some (.int st),some v,some (.int at'),none,none,none] H:=λ at' a0 a1=>by
   refine⟨_,rfl,_,rfl,c,at',3000,rfl,a0,a1,by decide,by decide,λ d de d0 d1=>?_⟩
   refine⟨by decide,λ l hl=>?_⟩
   have b0:=CM (d/6) (b:=4) (by decide)
   have b1:=Cz (d/6) (b:=4) (by decide)
   refine⟨_,rfl,_,_,rfl,rfl,⟨by decide,by decide⟩,_,_,rfl,rfl,by show (0:Int)<4;decide,d/6%4,rfl,by lia,by lia,cS (lo:=0)
    (λ i σ H2=>(∃ ls:List (Addr×Int×Int),ls.length=i/\H2 l=some (.lst (ls.map λ x=>V.ref x.1))/\(∀ x∈ls,H2 x.1=some (.tup [.int x.2.1,.int x.2.2])/\0<=x.2.1/\x.2.1<m)/\aL H H2)/\∃ o,σ=[some (.int c),some (.int m),some (.int h),some (.int st),some v,some (.int at'),some (.int d),some (.ref l),o])
    ⟨⟨[],rfl,aD,(λ x hx=>by cases hx),aL.new hl⟩,_,rfl⟩ ?_ ?_⟩
   ·rintro i σ H2 hi ⟨⟨ls,len,el,hls,sm⟩,o,rfl⟩
    refine⟨_,rfl,.inl ⟨rfl,_,SqL.of el⟩,?_⟩
    refine⟨_,rfl,_,_,rfl,rfl,⟨by decide,by decide⟩,_,rfl,_,rfl,_,_,rfl,rfl,⟨by decide,by decide⟩,_,_,rfl,rfl,.inl (by lia),_,_,rfl,rfl,_,rfl,_,_,rfl,rfl,by lia,?_⟩
    refine⟨_,rfl,_,_,rfl,rfl,⟨by decide,by decide⟩,_,rfl,_,_,rfl,rfl,by show 2<=sizeLine;decide,λ q hq=>?_⟩
    refine⟨l,_,.ref q,rfl,rfl,by rw[aE (aF el hq)];exact el,bg (by rw[BB];lia),?_⟩
    have nlq:q≠l:=λ z=>by rw[z,el] at hq;cases hq
    refine⟨⟨ls++[(q,(d/24+(0+(i:Int))*(d/120))%m,d/7+(0+(i:Int)))],by rw[BL,len];rfl,by rw[aD,B7];rfl,λ x hx=>?_,λ b u e=>?_⟩,_,rfl⟩
    ·rcases BH.mp hx with hx|hx
     ·obtain⟨z1,z2⟩:=hls x hx
      refine⟨?_,z2⟩
      rw[aE (λ z=>by rw[z,el] at z1;cases z1),aE (aF z1 hq)];exact z1
     ·rw[BD] at hx
      subst hx
      exact⟨by rw[aE nlq,aD],CM _ (by lia),Cz _ (by lia)⟩
    ·rw[aE (aF e hl),aE (aF (sm _ _ e) hq)];exact sm _ _ e
   ·rintro σ H2 ⟨⟨ls,len,el,hls,sm⟩,o,rfl⟩
    refine⟨_,rfl,_,_,rfl,rfl,by show (0:Int)<6;decide,_,rfl,?_⟩
    refine⟨_,rfl,_,_,rfl,rfl,⟨by decide,by decide⟩,by show 1<=sizeLine;decide,λ l5 hl5=>?_⟩
    refine⟨_,rfl,_,_,rfl,rfl,by show (0:Int)<4;decide,rfl,_,rfl,_,rfl,l5,_,rfl,SqL.of aD,λ l6 hl6=>⟨by show 3<=sizeLine;decide,λ r hr=>?_⟩⟩
    obtain⟨ws,ew,lw⟩:=qf (ns:=[d/5]) (lo:=none) (hi:=some (if decide (V.int (d%4)=V.int 0)=true then 1 else 0))
    have s5:aL H2 (upd H2 l5 (.lst [V.int (d/5)])):=aL.new hl5
    have s6:aL H2 (upd (upd H2 l5 (.lst [V.int (d/5)])) l6 (.lst (mS [V.int (d/5)] none (some (if decide (V.int (d%4)=V.int 0)=true then 1 else 0))))):=s5.trans (aL.new hl6)
    have s7:=s6.trans (aL.new (o:=.tup [V.int (d%6),.ref l,.ref l6]) hr)
    refine k _ r _ l l6 ls ws (sm.trans s7) aD (s7 _ _ el) (by lia) (λ x hx=>⟨s7 _ _ (hls x hx).1,(hls x hx).2⟩) ?_ (B6 lw (by show 1<=10;decide))
    rw[aE (aF aD hr),aD,<- ew];rfl
  have e0:=CM st (b:=6) (by decide)
  have e1:=Cz st (b:=6) (by decide)
  refine⟨_,rfl,_,_,rfl,rfl,.inr ⟨by decide,by decide⟩,_,rfl,_,_,rfl,rfl,by show (0:Int)<6;decide,_,_,rfl,rfl,_,_,rfl,rfl,.inr ⟨by decide,by decide⟩,?_⟩
  rcases hv with rfl|⟨wd,rfl⟩
  ·exact⟨_,rfl,rfl,_,rfl,cj rfl (key _ (by lia) (by lia))⟩
  ·have f0:=CM wd (b:=3) (by decide)
   have f1:=Cz wd (b:=3) (by decide)
   exact⟨_,rfl,rfl,_,rfl,f7 rfl ⟨_,rfl,_,_,rfl,rfl,_,rfl,_,_,rfl,rfl,by show (0:Int)<3;decide,_,_,rfl,rfl,key _ (by lia) (by lia)⟩⟩
noncomputable def wh (K:W.Frag):List V->Sp:=λ ws vs H Q E=>∃ c m:Int,∃ h st v,ws=[.int c,.int m]/\vs=[h,st,v]/\uK K [.int c,.int m,h,st,v] H Q E
theorem xo (T:Txt K mg t):j3 P w K mg base (CXr P w) 3 "_law_loom.<locals>.<lambda>" qo ["_law_hand","_law_state","_law_word"] ["_law_cell","_law_many"] (wh K):=by
 refine t5 qP (λ J vs H Q E h=>?_) (λ _ _ _ _ G q=>match G,q with | [_,_,_],_=>rfl) (λ f j cl A outer s H J vs Q E F L h=>?_)
 ·obtain⟨c,m,h,st,v,_,rfl,_⟩:=h;rfl
 ·obtain⟨c,m,h,st,v,rfl,rfl,k⟩:=h
  refine⟨_,(aV (AJ (K:=K) T) (F.mono (by decide)) rfl T.mg_cv T.kp_cv T.b_cv .nil aK (aI (pv 3) (aI (pv 4) (aI (pv 0) (aI (pv 1) (aI (pv 2) aG)))))),?_⟩
  exact⟨_,rfl,_,rfl,_,rfl,_,rfl,_,rfl,k⟩
theorem WfD.mono (w:WfD m c A) (h:∀ x,c x<=c' x):WfD m c' A:=
 ⟨w.nd,w.nt,λ e q=>let ⟨l,j,O,U⟩:=w.tp e q;⟨l,j,O,Int.le_trans U (h _)⟩,λ l j=>let ⟨F,G,J,L,M⟩:=w.rg l j;⟨F,G,J,Int.le_trans L (h _),M⟩,w.wn,w.wi,w.wd,w.wa,w.t1⟩
noncomputable def fG (wy:List ((Int×Int)×Addr×List Nm3)) (k:Int×Int) (n:Nm3):List ((Int×Int)×Addr×List Nm3):=wy.map λ e=>if e.1=k then (e.1,e.2.1,e.2.2.filter λ x=>decide (x≠n)) else e
theorem dQ (k:Int×Int) (n:Nm3) (e:(Int×Int)×Addr×List Nm3):(if e.1=k then (e.1,e.2.1,e.2.2.filter λ x=>decide (x≠n)) else e).1=e.1/\(if e.1=k then (e.1,e.2.1,e.2.2.filter λ x=>decide (x≠n)) else e).2.1=e.2.1:=by
 by_cases z:e.1=k
 ·rw[BN z];exact⟨rfl,rfl⟩
 ·rw[BI z];exact⟨rfl,rfl⟩
theorem m7:(fG wy k n).map (·.1)=wy.map (·.1):=by
 unfold fG
 rw[Cs]
 exact Cr λ e _=>(dQ k n e).1
theorem gC {A:DiA}(G:(A.po.map (·.nm)).Nodup) {l q:cQ}(h:l∈A.po) (h':q∈A.po) (e:l.nm=q.nm):l=q:=by
 obtain⟨i,hi,rfl⟩:=B2 h
 obtain⟨j,F,rfl⟩:=B2 h'
 have:i=j:=(C2 (l:=A.po.map (·.nm)) (by simpa using hi) G).mp (by rw[BC,BC,Bz hi,Bz F];exact congrArg some e)
 subst this;rfl
noncomputable def DiA.take (A:DiA) (l:cQ) (pl:Int):DiA:={ A with ta:=A.ta++[(l.nm,pl)],wy:=fG A.wy (l.nm.1,l.to) l.nm }
theorem WfD.take {m:Int}{c:Int->Int}{A:DiA}(w:WfD m c A) {l:cQ}{pl:Int}(hl:l∈A.po) (nt:l.nm∉A.ta.map (·.1)) (hp:pl<=c l.to) (Y:1<=pl):WfD m c (A.take l pl):=by
 have U:∀ n,n∈(A.ta++[(l.nm,pl)]).map (·.1)↔n∈A.ta.map (·.1)\/n=l.nm:=λ n=>by rw[B7,BH];simp
 refine⟨w.nd,?_,λ e j=>?_,w.rg,by show ((fG A.wy _ _).map (·.1)).Nodup;rw[m7];exact w.wn,λ e j n=>?_,λ e j=>?_,λ J W Z=>?_,λ e j=>?_⟩
 ·show ((A.ta++[(l.nm,pl)]).map (·.1)).Nodup
  rw[B7]
  refine Cq.mpr ⟨w.nt,by simp,λ a ha b hb z=>?_⟩
  have V:b=l.nm:=by simpa using hb
  exact nt (by rw[<- V,<- z];exact ha)
 ·rcases BH.mp j with j|j
  ·exact w.tp e j
  ·rw[BD] at j
   subst j
   exact⟨l,hl,rfl,hp⟩
 ·obtain⟨F,G,rfl⟩:=BV.mp (show e∈A.wy.map _ from j)
  rw[(dQ _ _ F).1]
  show _↔∃ J∈A.po,J.nm=n/\n.1=F.1.1/\J.to=F.1.2/\n∉(A.ta++[(l.nm,pl)]).map (·.1)
  have base:=w.wi F G n
  by_cases z:F.1=(l.nm.1,l.to)
  ·rw[BN z]
   show n∈F.2.2.filter _↔_
   rw[Cy,base]
   constructor
   ·rintro⟨⟨J,h1,h2,L,M,O⟩,h6⟩
    exact⟨J,h1,h2,L,M,λ q=>((U n).mp q).elim O (by simpa using h6)⟩
   ·rintro⟨J,h1,h2,L,M,O⟩
    exact⟨⟨J,h1,h2,L,M,λ q=>O ((U n).mpr (.inl q))⟩,by rw[C0];exact λ q=>O ((U n).mpr (.inr q))⟩
  ·rw[BI z,base]
   constructor
   ·rintro⟨J,h1,h2,L,M,O⟩
    refine⟨J,h1,h2,L,M,λ q=>((U n).mp q).elim O λ y=>z ?_⟩
    have:J=l:=gC w.nd h1 hl (h2.trans y)
    subst this
    subst y
    exact Prod.ext L.symm M.symm
   ·rintro⟨J,h1,h2,L,M,O⟩
    exact⟨J,h1,h2,L,M,λ q=>O ((U n).mpr (.inl q))⟩
 ·obtain⟨F,G,rfl⟩:=BV.mp (show e∈A.wy.map _ from j)
  by_cases z:F.1=(l.nm.1,l.to)
  ·rw[BN z];exact(w.wd F G).filter _
  ·rw[BI z];exact w.wd F G
 ·obtain⟨F,G,z⟩:=w.wa J W λ q=>Z ((U _).mpr (.inl q))
  exact⟨_,BV.mpr ⟨F,G,rfl⟩,by rw[(dQ _ _ F).1];exact z⟩
 ·rcases BH.mp j with j|j
  ·exact w.t1 e j
  ·rw[BD] at j
   subst j;exact Y
theorem Di.take {G H H':Hp}{L:DiL}{A:DiA}{l:cQ}{pl:Int}{e0:(Int×Int)×Addr×List Nm3}(d:Di G H L A) (wn:(A.wy.map (·.1)).Nodup) (J:e0∈A.wy) (k0:e0.1=(l.nm.1,l.to))
  (h1:H' L.ta=some (.dT ((A.ta.map λ e=>(nk e.1,V.int e.2))++[(nk l.nm,V.int pl)]))) (h2:H' e0.2.1=some (.dT ((e0.2.2.filter λ x=>decide (x≠l.nm)).map λ n=>(nk n,V.bl true))))
  (O:∀ b o,b≠L.ta->b≠e0.2.1->b∈L.own A->H b=some o->H' b=some o) (W:aL G H'):Di G H' L (A.take l pl)/\L.own (A.take l pl)=L.own A:=by
 obtain⟨n1,n2,n3,U,n5⟩:=d.nes
 have M:L.own (A.take l pl)=L.own A:=by
  show [L.po,L.ta,L.wy]++(fG A.wy (l.nm.1,l.to) l.nm).map (·.2.1)=[L.po,L.ta,L.wy]++A.wy.map (·.2.1)
  unfold fG
  rw[Cs]
  congr 1
  exact Cr λ e _=>(dQ _ _ e).2
 refine⟨⟨O _ _ n1 (λ z=>(U e0 J).1 z.symm) (by unfold DiL.own;simp) d.po,?_,?_,λ e Z=>?_,d.lets,W,by rw[M];exact d.nd,by rw[M];exact d.gn⟩,M⟩
 ·show H' L.ta=some (.dT ((A.ta++[(l.nm,pl)]).map λ e=>(nk e.1,V.int e.2)))
  rw[h1,B7];rfl
 ·show H' L.wy=some (.dT ((fG A.wy (l.nm.1,l.to) l.nm).map λ e=>(wk e.1,V.ref e.2.1)))
  unfold fG
  rw[Cs,O _ _ (Ne.symm n3) (λ z=>(U e0 J).2.2 z.symm) (by unfold DiL.own;simp) d.wy]
  congr 2
  exact Cr λ e _=>by show _=(wk _,V.ref _);rw[(dQ _ _ e).1,(dQ _ _ e).2]
 ·obtain⟨q,F,rfl⟩:=BV.mp (show e∈A.wy.map _ from Z)
  by_cases z:q.1=(l.nm.1,l.to)
  ·have:q=e0:=by
    obtain⟨i,hi,rfl⟩:=B2 F
    obtain⟨j,Y,rfl⟩:=B2 J
    have:i=j:=(C2 (l:=A.wy.map (·.1)) (by simpa using hi) wn).mp (by rw[BC,BC,Bz hi,Bz Y];exact congrArg some (z.trans k0.symm))
    subst this;rfl
   subst this
   rw[BN z];exact h2
  ·rw[BI z]
   exact O _ _ (U q F).2.1 (λ y=>z (by rw[n5 q F e0 J y];exact k0)) (DiL.dX F) (d.ways q F)
theorem mQ {ns:List Nm3}{n:Nm3}:jt (ns.map λ n=>(nk n,V.bl true)) (nk n)=(ns.filter λ x=>decide (x≠n)).map λ n=>(nk n,V.bl true):=by
 unfold jt
 rw[List.filter_map]
 congr 1
 refine List.filter_congr λ x _=>?_
 show decide (nk x≠nk n)=decide (x≠n)
 rw[DM]
 exact⟨λ h e=>h (by rw[e]),λ h e=>h (cm _ _ e)⟩
structure LoL where
 (p dx dz lt lg:Addr)
 D:DiL
 ths:List ThL
 habs:List fE
structure LoA where
 many:Nat
 ord:Bool
 cell:Int
 ths:List ThA
 A:DiA
noncomputable def cnt (ths:List ThA) (h:Int):Int:=match ths[h.toNat]? with
 | some T=>T.evs.length
 | none=>0
noncomputable def bV (Ls:List ThL):List Addr:=Ls.flatMap λ q=>[q.p,q.dn,q.wr]
noncomputable def LoL.own (L:LoL) (A:LoA):List Addr:=[L.p,L.lt,L.lg]++(bV L.ths++L.D.own A.A)
structure TWf (n:Nat) (T:ThA):Prop where
 ws:∃ w0 ws,T.ws=w0::ws
 rg:∀ z∈T.ws,0<=z/\z<=T.evs.length
 dn:T.down<=T.evs.length
 en:T.evs.length<=n
 wn:T.ws.length<=n+1
 w0:T.ws.head? = some 0
 d0:0<=T.down
 ea:T.hab=.each->T.down=T.evs.length
noncomputable def rP (H:Hp) (r:Addr):Prop:=(∃ s h,H r=some (.tup [.str s,.int h])/\PyData.strOk s=true)\/∃ s h b n,H r=some (.tup [.str s,.int h,.ref b])/\H b=some (.tup (nV n))/\PyData.strOk s=true
noncomputable def mT (H:Hp) (x:V):Prop:=∃ e r pl,x=.ref e/\H e=some (.tup [.ref r,.int pl])/\rP H r
theorem rP.keep (h:rP H r) (k:∀ b xs,H b=some (.tup xs)->H' b=some (.tup xs)):rP H' r:=
 h.elim (λ⟨s,i,e,q⟩=>.inl ⟨s,i,k _ _ e,q⟩) λ⟨s,i,b,n,e,j,q⟩=>.inr ⟨s,i,b,n,k _ _ e,k _ _ j,q⟩
theorem mT.keep (h:mT H x) (k:∀ b xs,H b=some (.tup xs)->H' b=some (.tup xs)):mT H' x:=
 let ⟨e,r,F,ex,j,q⟩:=h
 ⟨e,r,F,ex,k _ _ j,q.keep k⟩
structure LoC (K:W.Frag) (t:Adr) (G H:Hp) (L:LoL) (A:LoA):Prop where
 self:H L.p=some (.ins t.c_Loom L.dx (loF L.dz A.many A.ord L.lt L.lg L.D))
 tl:H L.lt=some (.lst (L.ths.map λ q=>V.ref q.p))
 th:∀ (i:Nat) q T,L.ths[i]? = some q->A.ths[i]? = some T->Th K t G H q T
 len1:L.ths.length=A.many
 len2:A.ths.length=A.many
 log:∃ xs,H L.lg=some (.lst xs)
 di:Di G H L.D A.A
 clo:kr G "_law_loom.<locals>.<lambda>" qo ["_law_cell","_law_many"] L.dz [.int A.cell,.int A.many]
 held:aL G H
 gn:∀ b∈L.own A,G b=none
 nd:(L.own A).Nodup
theorem bI {j:List ThL}{i:Nat}{q:ThL}(h:j[i]? = some q):∀ b∈[q.p,q.dn,q.wr],b∈bV j:=λ b F=>Dx.mpr ⟨q,BJ h,F⟩
theorem mx {q:List ThL}(G:(bV q).Nodup) {i j:Nat}{a b:ThL}(W:q[i]? = some a) (Y:q[j]? = some b) (Z:i≠j):∀ x∈[a.p,a.dn,a.wr],x∉[b.p,b.dn,b.wr]:=by
 unfold bV List.Nodup at G
 rw[List.pairwise_flatMap] at G
 have J:=G.2
 rw[Dg] at J
 obtain⟨hi,L⟩:=BE.mp W
 obtain⟨O,M⟩:=BE.mp Y
 intro x U V
 rcases Nat.lt_or_gt_of_ne Z with F|F
 ·exact J i j hi O F x (by rw[L];exact U) x (by rw[M];exact V) rfl
 ·exact J j i O hi F x (by rw[M];exact V) x (by rw[L];exact U) rfl
theorem su {q:List ThL}(j:(bV q).Nodup) {i:Nat}{a:ThL}(F:q[i]? = some a):[a.p,a.dn,a.wr].Nodup:=by
 unfold bV List.Nodup at j
 rw[List.pairwise_flatMap] at j
 exact j.1 a (BJ F)
section
variable {G H G' H':Hp}{L:LoL}{A:LoA}
theorem LoC.nd3 (c:LoC K t G H L A):([L.p,L.lt,L.lg]:List Addr).Nodup/\(bV L.ths).Nodup/\(∀ b∈[L.p,L.lt,L.lg],b∉bV L.ths/\b∉L.D.own A.A)/\∀ b∈bV L.ths,b∉L.D.own A.A:=by
 have nd:=c.nd
 unfold LoL.own at nd
 obtain⟨n1,n2,n3⟩:=Cq.mp nd
 obtain⟨m1,m2,m3⟩:=Cq.mp n2
 exact⟨n1,m1,λ b hb=>⟨λ z=>n3 b hb b (BS _ z) rfl,λ z=>n3 b hb b (BG _ z) rfl⟩,λ b hb z=>m3 b hb b z rfl⟩
theorem LoC.lS (c:LoC K t G H L A):∀ b∈L.own A,H b≠none:=λ b j=>by
 unfold LoL.own at j
 rcases BH.mp j with j|j
 ·simp only[BF,BM,Ca] at j
  obtain⟨xs,M⟩:=c.log
  rcases j with rfl|rfl|rfl
  ·rw[c.self];simp
  ·rw[c.tl];simp
  ·rw[M];simp
 ·rcases BH.mp j with j|j
  ·obtain⟨q,J,j⟩:=Dx.mp j
   obtain⟨i,hi,rfl⟩:=B2 J
   have th:=c.th i L.ths[i] (A.ths[i]'(by rw[c.len2,<- c.len1];exact hi)) (Bz hi) (Bz _)
   obtain⟨es,F,_⟩:=th.done
   simp only[BF,BM,Ca] at j
   rcases j with rfl|rfl|rfl
   ·rw[th.self];simp
   ·rw[F];simp
   ·rw[th.dR];simp
  ·obtain⟨kvs,e⟩:=c.di.isd j
   rw[e];simp
theorem LoC.frame (c:LoC K t G H L A) (sg:aL G G') (s':aL G' H') (kp:∀ b o,b∈L.own A->H b=some o->H' b=some o) (n:∀ b∈L.own A,G' b=none):LoC K t G' H' L A:=by
 have m1:∀ b∈[L.p,L.lt,L.lg],b∈L.own A:=λ b hb=>BS _ hb
 have m2:∀ b∈bV L.ths,b∈L.own A:=λ b hb=>BG _ (BS _ hb)
 have m3:∀ b∈L.D.own A.A,b∈L.own A:=λ b hb=>BG _ (BG _ hb)
 obtain⟨xs,hx⟩:=c.log
 have di:=c.di
 refine⟨kp _ _ (m1 _ (by simp)) c.self,kp _ _ (m1 _ (by simp)) c.tl,λ i q T hq hT=>?_,c.len1,c.len2,⟨xs,kp _ _ (m1 _ (by simp)) hx⟩,?_,c.clo.same λ b o u e=>sg _ _ e,s',n,c.nd⟩
 ·exact(c.th i q T hq hT).keep sg s' (λ b o hb e=>kp b o (m2 b (bI hq b hb)) e) λ b hb=>n b (m2 b (bI hq b hb))
 ·have:=di.frame (H':=H') (λ b o hb e=>kp b o (m3 b hb) e) (λ b o e=>s' _ _ (sg _ _ e))
  exact⟨this.po,this.ta,this.wy,this.ways,λ l hl=>sg _ _ (di.lets l hl),s',di.nd,λ b hb=>n b (m3 b hb)⟩
theorem LoC.iu (c:LoC K t G H L A) {j:Nat}{q:ThL}{T':ThA}(hq:L.ths[j]? = some q) (g:fD H G G' H') (bt:But [q.p,q.dn] H H') (th:Th K t G' H' q T'):LoC K t G' H' L { A with ths:=A.ths.set j T' }:=by
 obtain⟨d1,d2,d3,d4⟩:=c.nd3
 have gn:∀ b∈L.own A,G' b=none:=λ b hb=>g.free (c.lS b hb) (c.gn b hb)
 have qin:∀ b∈[q.p,q.dn],b∈bV L.ths:=λ b hb=>bI hq b (by
  simp only[BF,BM,Ca] at hb ⊢
  rcases hb with h|h
  ·exact .inl h
  ·exact .inr (.inl h))
 have n1:∀ b∈[L.p,L.lt,L.lg],b∉[q.p,q.dn]:=λ b hb z=>(d3 b hb).1 (qin b z)
 have n2:∀ b∈L.D.own A.A,b∉[q.p,q.dn]:=λ b hb z=>d4 b (qin b z) hb
 obtain⟨xs,hx⟩:=c.log
 refine⟨bt _ _ (n1 _ (by simp)) c.self,bt _ _ (n1 _ (by simp)) c.tl,λ i r T hr hT=>?_,c.len1,by rw[DU];exact c.len2,⟨xs,bt _ _ (n1 _ (by simp)) hx⟩,?_,c.clo.same λ b o u e=>g.sub _ _ e,g.held,gn,c.nd⟩
 ·by_cases e:i=j
  ·subst e
   rw[hq] at hr;cases hr
   have hi:i<A.ths.length:=by
    have:=(BE.mp hq).1
    rw[c.len2,<- c.len1];exact this
   have hT':(A.ths.set i T')[i]? = some T:=hT
   rw[B8 hi] at hT'
   cases hT'
   exact th
  ·have hT':(A.ths.set j T')[i]? = some T:=hT
   rw[Cp (Ne.symm e)] at hT'
   refine(c.th i r T hr hT').keep g.sub g.held (λ b o hb z=>bt b o (λ y=>?_) z) λ b hb=>gn b (BG _ (BS _ (bI hr b hb)))
   exact mx d2 hr hq e b hb (by
    simp only[BF,BM,Ca] at y ⊢
    rcases y with h|h
    ·exact .inl h
    ·exact .inr (.inl h))
 ·have:=c.di.frame (H':=H') (λ b o hb e=>bt b o (n2 b hb) e) (λ b o e=>g.held _ _ (g.sub _ _ e))
  exact⟨this.po,this.ta,this.wy,this.ways,λ l hl=>g.sub _ _ (c.di.lets l hl),g.held,c.di.nd,λ b hb=>gn b (BG _ (BG _ hb))⟩
theorem LoC.qF (c:LoC K t G H L A) {D':DiA}(bt:But (L.D.own A.A) H H') (d':Di G H' L.D D') (fr:∀ b∈L.D.own D',b∈L.D.own A.A\/H b=none):LoC K t G H' L { A with A:=D' }:=by
 obtain⟨d1,d2,d3,d4⟩:=c.nd3
 obtain⟨xs,hx⟩:=c.log
 have dis:∀ b∈[L.p,L.lt,L.lg]++bV L.ths,b∉L.D.own D':=λ b hb z=>by
  rcases fr b z with y|y
  ·rcases BH.mp hb with hb|hb
   ·exact(d3 b hb).2 y
   ·exact d4 b hb y
  ·refine c.lS b ?_ y
   unfold LoL.own
   rcases BH.mp hb with hb|hb
   ·exact BS _ hb
   ·exact BG _ (BS _ hb)
 refine⟨bt _ _ (d3 _ (by simp)).2 c.self,bt _ _ (d3 _ (by simp)).2 c.tl,λ i q T hq hT=>?_,c.len1,c.len2,⟨xs,bt _ _ (d3 _ (by simp)).2 hx⟩,d',c.clo,d'.held,λ b hb=>?_,?_⟩
 ·exact(c.th i q T hq hT).keep (.refl _) d'.held (λ b o hb e=>bt b o (d4 b (bI hq b hb)) e) λ b hb=>c.gn b (BG _ (BS _ (bI hq b hb)))
 ·unfold LoL.own at hb
  rcases BH.mp hb with hb|hb
  ·exact c.gn b (BS _ hb)
  ·rcases BH.mp hb with hb|hb
   ·exact c.gn b (BG _ (BS _ hb))
   ·exact d'.gn b hb
 ·unfold LoL.own
  refine Cq.mpr ⟨d1,Cq.mpr ⟨d2,d'.nd,λ a ha b hb z=>?_⟩,λ a ha b hb z=>?_⟩
  ·rw[<- z] at hb;exact dis a (BG _ ha) hb
  ·rw[<- z] at hb
   rcases BH.mp hb with hb|hb
   ·exact(d3 a ha).1 hb
   ·exact dis a (BS _ ha) hb
theorem lY (s:aL G H) (S:List Addr) (F:∀ b∈S,∃ xs,H b=some (.tup xs)):∃ q,aL G q/\aL q H/\(∀ b∈S,q b=H b)/\∀ b,G b=none->(∀ xs,H b≠some (.tup xs))->q b=none:=by
 classical
 refine⟨λ b=>if b∈S then H b else G b,λ b o e=>?_,λ b o e=>?_,λ b J=>BN J,λ b e n=>?_⟩
 ·by_cases h:b∈S
  ·show (if b∈S then H b else G b)=_
   rw[BN h];exact s _ _ e
  ·show (if b∈S then H b else G b)=_
   rw[BI h];exact e
 ·by_cases h:b∈S
  ·have j:(if b∈S then H b else G b)=some o:=e
   rw[BN h] at j;exact j
  ·have j:(if b∈S then H b else G b)=some o:=e
   rw[BI h] at j;exact s _ _ j
 ·show (if b∈S then H b else G b)=_
  by_cases h:b∈S
  ·obtain⟨xs,z⟩:=F b h
   exact absurd z (n xs)
  ·rw[BI h];exact e
theorem LoC.uN (c:LoC K t G H L A):∀ b∈L.own A,∀ xs,H b≠some (.tup xs):=λ b j ys e=>by
 unfold LoL.own at j
 rcases BH.mp j with j|j
 ·simp only[BF,BM,Ca] at j
  obtain⟨xs,O⟩:=c.log
  rcases j with rfl|rfl|rfl
  ·rw[c.self] at e;cases e
  ·rw[c.tl] at e;cases e
  ·rw[O] at e;cases e
 ·rcases BH.mp j with j|j
  ·obtain⟨q,M,j⟩:=Dx.mp j
   obtain⟨i,hi,rfl⟩:=B2 M
   have th:=c.th i L.ths[i] (A.ths[i]'(by rw[c.len2,<- c.len1];exact hi)) (Bz hi) (Bz _)
   obtain⟨es,J,_⟩:=th.done
   simp only[BF,BM,Ca] at j
   rcases j with rfl|rfl|rfl
   ·rw[th.self] at e;cases e
   ·rw[J] at e;cases e
   ·rw[th.dR] at e;cases e
  ·obtain⟨kvs,F⟩:=c.di.isd j
   rw[F] at e;cases e
end
structure Lo (K:W.Frag) (t:Adr) (G H:Hp) (L:LoL) (A:LoA) (n:Nat):Prop where
 c:LoC K t G H L A
 wf:WfD A.many (cnt A.ths) A.A
 lg:∃ xs,H L.lg=some (.lst xs)/\xs.length<=n
 tw:∀ T∈A.ths,TWf n T
 bn:A.A.po.length<=3*n/\A.A.wy.length<=3*n
 m2:2<=A.many/\A.many<=5
 lr:∀ xs,H L.lg=some (.lst xs)->∀ x∈xs,mT H x
 hb:A.ths.map (·.hab)=L.habs
inductive How (H:Hp) (A:LoA) (h:Int):V->V->Prop
 | own:How H A h .non .non
 | use {b:Addr} {l:cQ}:H b=some (.tup (nV l.nm))->l∈A.A.po->l.nm∉A.A.ta.map (·.1)->l.to=h->How H A h (.ref b) (.int l.wd)
theorem mZ {q:List ThA}{j:Nat}{T:ThA}(h:q[j]? = some T):cnt q j=T.evs.length:=by
 unfold cnt
 rw[Cg,h]
theorem je {q:List ThA}{j:Nat}{T:ThA}(h:j<q.length):cnt (q.set j T) j=T.evs.length:=mZ (B8 h)
theorem rV (h:ths[j]? = some T) (F:T.evs.length<=T'.evs.length) (x):cnt ths x<=cnt (ths.set j T') x:=by
 have q:j<ths.length:=(BE.mp h).1
 unfold cnt
 by_cases e:x.toNat=j
 ·rw[e,h,B8 q]
  dsimp only
  lia
 ·rw[Cp (Ne.symm e)]
  exact CS _
theorem TWf.more (w:TWf n T):TWf (n+1) T:=⟨w.ws,w.rg,w.dn,by have:=w.en;lia,by have:=w.wn;lia,w.w0,w.d0,w.ea⟩
theorem TWf.iu {n:Nat}{T:ThA}{Ev:EvA}(w:TWf n T):TWf (n+1) { T with evs:=T.evs++[Ev],down:=T.hab.iu T.down (T.evs.length+1) }:=by
 have dn:=w.dn
 have d0:=w.d0
 refine⟨w.ws,λ z hz=>?_,?_,?_,by have:=w.wn;show T.ws.length<=_;lia,w.w0,?_,λ e=>?_⟩
 ·have:=w.rg z hz
  show 0<=z/\z<=((T.evs++[Ev]).length:Int)
  rw[BL,B3];lia
 ·show T.hab.iu T.down (T.evs.length+1)<=((T.evs++[Ev]).length:Int)
  rw[BL,B3]
  cases T.hab with
  | never=>show T.down<=_;lia
  | each=>show (T.evs.length:Int)+1<=_;lia
  | bundle m=>
   show (if (T.evs.length:Int)+1-T.down >= m then (T.evs.length:Int)+1 else T.down)<=((T.evs.length+1:Nat):Int)
   split<;>lia
 ·have:=w.en
  show (T.evs++[Ev]).length<=n+1
  rw[BL,B3];lia
 ·show 0<=T.hab.iu T.down (T.evs.length+1)
  cases T.hab with
  | never=>exact d0
  | each=>show (0:Int)<=T.evs.length+1;lia
  | bundle m=>
   show 0<=(if (T.evs.length:Int)+1-T.down >= m then (T.evs.length:Int)+1 else T.down)
   split<;>lia
 ·have e':T.hab=.each:=e
  show T.hab.iu T.down (T.evs.length+1)=((T.evs++[Ev]).length:Int)
  rw[e',BL,B3];rfl
theorem jh:∀ {j:List (Addr×Int×Int)},(∀ x∈j,G x.1=some (.tup [.int x.2.1,.int x.2.2]))->bR K G (j.map λ x=>V.ref x.1) ((j.map λ x=>[PyData.int x.2.1,PyData.int x.2.2]).map PyData.tuple)
 | [],_=>.nil
 | x::j,h=>.cons (.tup (SqT.of (h x BR)) (.cons (.int _) (.cons (.int _) .nil))) (jh λ y q=>h y (BQ _ q))
theorem cK:∀ {ns:List Int},bR K G (iV ns) (ns.map PyData.int)
 | []=>.nil
 | _::_=>.cons (.int _) cK
theorem jZ {q:List ThA}{j:Nat}{T J:ThA}(h:q[j]? = some T) (e:J.hab=T.hab):(q.set j J).map (·.hab)=q.map (·.hab):=by
 have M:=(BE.mp h)
 obtain⟨F,rfl⟩:=M
 refine DG λ i=>?_
 rw[BC,BC]
 by_cases z:j=i
 ·subst z
  rw[B8 F,Bz F]
  exact congrArg some e
 ·rw[Cp z]
theorem LoC.tQ {G H:Hp}{L:LoL}{A:LoA}(c:LoC K t G H L A) {b:Addr}{xs:List V}(h:H b=some (.tup xs)):b∉L.own A:=λ z=>by
 rcases BH.mp (show b∈[L.p,L.lt,L.lg]++(bV L.ths++L.D.own A.A) from z) with z|z
 ·simp only[BF,BM,Ca] at z
  rcases z with rfl|rfl|rfl
  ·rw[c.self] at h;cases h
  ·rw[c.tl] at h;cases h
  ·obtain⟨ys,y⟩:=c.log
   rw[y] at h;cases h
 ·rcases BH.mp z with z|z
  ·obtain⟨q,j,z⟩:=Dx.mp z
   obtain⟨i,hi,rfl⟩:=B2 j
   have th:=c.th i _ (A.ths[i]'(by rw[c.len2,<- c.len1];exact hi)) (Bz hi) (Bz _)
   simp only[BF,BM,Ca] at z
   rcases z with rfl|rfl|rfl
   ·rw[th.self] at h;cases h
   ·obtain⟨es,y,_⟩:=th.done
    rw[y] at h;cases h
   ·rw[th.dR] at h;cases h
  ·obtain⟨kvs,y⟩:=c.di.isd z
   rw[y] at h;cases h
noncomputable def zb (K:W.Frag) (t:Adr):Sp:=λ vs H Q _=>∃ G L A n,∃ j:Nat,∃ v w,vs=[.ref L.p,.int j,v,w]/\Lo K t G H L A n/\n<30/\j<A.many/\How H A j v w /\
 ∀ G' H' A',But (L.own A) H H'->Lo K t G' H' L A' (n+1)->A'.many=A.many->A'.ord=A.ord->(∃ xs,H L.lg=some (.lst xs)/\H' L.lg=some (.lst xs)/\xs.length<=n)->(∀ b∈L.own A',b∈L.own A\/H b=none)->Q .non H'
theorem uH (T:Txt K mg t):bB P w K mg base (CXr P w) 5 t.f_be t.fd_be ["self","hand","name","word"] (zb K t):=by
 refine T.F_be.okN nQ (λ vs H Q E h=>?_) (λ cdv A outer s H vs Q E hr h=>?_)
 ·obtain⟨G,L,A,n,j,v,w,rfl,_⟩:=h;rfl
 ·obtain⟨G,L,A,n,j,v,w',rfl,lo,nn,hj,how,k⟩:=h
  refine⟨_,(aH (aW (i:=4) nQ.nd rfl (Or.inl rfl) (bb (aZ (K:=K)) (aO (K:=K) (pv 0) rfl) (pv 1) (λ _ _=>rfl)))
   (aH (aW (i:=5) nQ.nd rfl (Or.inl rfl) (qC (xo (K:=K) T) (hr.mono (by decide)) (pv 0) T.cl_Loom T.na_cr aK (aI (pv 1) (aI (bj (pv 4) T.cl_Thread T.me_al (vt (K:=K) T) (hr.mono (by decide)) T.b_al .nil aK (aI (aU (pv 4) T.cl_Thread T.me_bq (dq (K:=K) T) (hr.mono (by decide)) T.b_bq .nil aK) aG)) (aI (pv 3) aG)))))
   (aH (aW (i:=6) nQ.nd rfl (Or.inl rfl) (fm T.mk_Event (uS (K:=K) T) (hr.mono (by decide)) rfl T.mg_Event T.b_cc .nil aK (aI (pv 2) (aI (bb (bz (K:=K)) (pv 5) aN (λ _ _=>rfl)) (aI (bb (bz (K:=K)) (pv 5) aN (λ _ _=>rfl)) (aI (bb (bz (K:=K)) (pv 5) aN (λ _ _=>rfl)) aG))))))
   (aH (bh (bj (pv 4) T.cl_Thread T.me_cl (Ax (K:=K) T) (hr.mono (by decide)) T.b_cl .nil aK (aI (pv 6) aG)))
   (aH (bQ (bA kD (pv 2) gJ (bD _))
    (aH (ij (cy hr) (aO (K:=K) (pv 0) rfl) (pv 2) (aU (pv 4) T.cl_Thread T.me_bq (dq (K:=K) T) (hr.mono (by decide)) T.b_bq .nil aK) rfl)
   (aJ (bh (cF (K:=K) E2 PySem.F.slot_dict_pop PySem.F.type_dict_pop (ui (cy hr)) (df (cy hr) (aO (K:=K) (pv 0) rfl) (cf (aI (bb (bz (K:=K)) (pv 2) aN (λ _ _=>rfl)) (aI (pv 1) aG))) (λ _ _=>rfl)) (aI (pv 2) aG)))))
    bu)
   (aJ (bh (bj (pv 0) T.cl_Loom T.me_cm (xQ (K:=K) T) (hr.mono (by decide)) T.b_cm .nil aK (aI (pv 1) (aI (aU (pv 4) T.cl_Thread T.me_bq (dq (K:=K) T) (hr.mono (by decide)) T.b_bq .nil aK) (aI (aO (K:=K) (pv 6) rfl) aG))))))))))),?_⟩
  refine sq λ rr1 ee1=>?_
  obtain⟨q,hq⟩:∃ q,L.ths[j]? = some q:=⟨_,Bz (by rw[lo.c.len1];exact hj)⟩
  obtain⟨T0,hT⟩:∃ T0,A.ths[j]? = some T0:=⟨_,Bz (by rw[lo.c.len2];exact hj)⟩
  have th:=lo.c.th j q T0 hq hT
  obtain⟨es,hd,evs⟩:=th.done
  have tw:=lo.tw T0 (BJ hT)
  obtain⟨w0,ws,ew⟩:=tw.ws
  have le:(es.length:Int)=T0.evs.length:=by rw[evs.1]
  have m2:=lo.m2
  have hqs:(L.ths.map λ q=>V.ref q.p)[j]? = some (.ref q.p):=by rw[BC,hq];rfl
  refine⟨_,rfl,L.p,_,L.dx,_,_,rfl,lo.c.self,T.cl_Loom,T.na_bj,rfl,_,rfl,L.lt,_,j,.ref q.p,rfl,rfl,SqL.of lo.c.tl,cM hqs,?_⟩
  refine(sn ee1 λ rr2 ee2=>?_:rr1 _ _ _)
  refine⟨_,rfl,L.p,L.dx,_,L.dz,_,rfl,lo.c.self,rfl,lo.c.clo.same (λ b o u e=>lo.c.held _ _ e),?_⟩
  refine⟨_,rfl,_,rfl,q.p,q.dx,_,rfl,th.self,rfl,_,rfl,q.p,q.dx,_,rfl,th.self,rfl,q.p,q.dx,_,q.ha,q.dn,q.wr,_,es,rfl,th.self,SqL.of hd,?_⟩
  refine⟨G,q.p,q.dx,_,q.ha,q.dn,q.wr,_,w0,ws,es,T0.evs,es.length,rfl,th.held,th.self,by rw[<- ew];exact th.dR,hd,evs,λ z hz=>by rw[le];exact tw.rg z (by rw[ew];exact hz),by rw[le];exact tw.dn,λ _=>?_,λ z=>absurd (.inl rfl) z⟩
  refine⟨_,rfl,.refl _,A.cell,A.many,_,_,_,rfl,rfl,A.cell,A.many,j,_,w',rfl,by lia,by lia,by lia,by lia,by cases how with|own=>exact .inl rfl|use _ _ _ _=>exact .inr ⟨_,rfl⟩,λ H1 r st' l1 l2 ls ws' s1 hr1 h1 few hls h2 lw=>?_⟩
  refine(sn ee2 λ rr3 ee3=>?_:rr2 _ _ _)
  refine⟨_,rfl,_,rfl,r,_,0,_,rfl,rfl,SqT.of hr1,rfl,_,rfl,r,_,1,_,rfl,rfl,SqT.of hr1,rfl,_,rfl,r,_,2,_,rfl,rfl,SqT.of hr1,rfl,λ e dxe ne nde nd=>?_⟩
  obtain⟨Sn,hSn,u,rpu⟩:∃ Sn:List Addr,(∀ b∈Sn,∃ xs,H b=some (.tup xs))/\∃ u,∀ G1:Hp,(∀ b∈Sn,G1 b=H b)->Rp K G1 v u:=by
   cases how with
   | own=>exact⟨[],(λ b hb=>by cases hb),.none,λ _ _=>.non⟩
   | @use b l hb _ _ _=>exact⟨[b],(λ c hc=>by rw[BD] at hc;rw[hc];exact⟨_,hb⟩),_,λ G1 h=>oI (by rw[h b (by simp)];exact hb)⟩
  obtain⟨G1,z1,z2,z3,z4⟩:=lY (lo.c.held.trans s1) (Sn++ls.map (·.1)) λ b hb=>by
   rcases BH.mp hb with hb|hb
   ·obtain⟨xs,y⟩:=hSn b hb
    exact⟨xs,s1 _ _ y⟩
   ·obtain⟨x,hx,rfl⟩:=BV.mp hb
    exact⟨_,(hls x hx).1⟩
  have c1:LoC K t G1 H1 L A:=lo.c.frame z1 z2 (λ b o _ y=>s1 _ _ y) λ b hb=>z4 b (lo.c.gn b hb) λ xs y=>by
   cases y':H b with
   | none=>exact lo.c.lS b hb y'
   | some o=>
    rw[s1 _ _ y'] at y
    cases y
    exact lo.c.uN b hb _ y'
  refine⟨e,dxe,v,st',l1,l2,_,_,rfl,aD,SqL.of (aL.ins ne nde _ _ h1),by rw[BB];lia,λ x hx=>?_,SqL.of (aL.ins ne nde _ _ h2),λ m1 m2 H5 nm1 nm2 nm12 hH5=>⟨rfl,?_⟩⟩
  ·obtain⟨y,hy,rfl⟩:=BV.mp hx
   exact⟨y.1,_,rfl,SqT.of (aL.ins ne nde _ _ (hls y hy).1)⟩
  refine(sn ee3 λ rr4 ee4=>?_:rr3 _ _ _)
  have r2:bR K G1 (ls.map λ x=>V.ref x.1) ((ls.map λ x=>[PyData.int x.2.1,PyData.int x.2.2]).map PyData.tuple):=jh λ x hx=>by rw[z3 x.1 (BG _ (BX hx))];exact(hls x hx).1
  obtain⟨G2,g2,s5,evo⟩:=wC (K:=K) (Ev:=⟨u,st',ls.map (λ x:Addr×Int×Int=>[PyData.int x.2.1,PyData.int x.2.2]),ws'.map PyData.int⟩) z2 ne nde nm1 nm2 nm12 hH5 (rpu G1 λ b hb=>by
   rw[z3 b (BS _ hb)]
   obtain⟨xs,y⟩:=hSn b hb
   rw[y,s1 _ _ y]) r2 (by rw[BB];lia) cK
  have c2:LoC K t G2 H5 L A:=c1.frame g2.sub g2.held (λ b o _ y=>s5 _ _ y) λ b hb=>g2.free (c1.lS b hb) (c1.gn b hb)
  have th2:=c2.th j q T0 hq hT
  have he5:H5 e=some (.ins t.c_Event dxe (evF v st' m1 m2)):=by rw[hH5 e,BN rfl]
  have m1e:m1≠e:=λ y=>by rw[y,aD] at nm1;cases nm1
  have hm5:H5 m1=some (.lst (ls.map λ x=>V.ref x.1)):=by rw[hH5 m1,BI m1e,BN rfl]
  have ge2:G2 e=some (.ins t.c_Event dxe (evF v st' m1 m2)):=by
   obtain⟨dx1,v1,a1,a2,xs1,ys1,y,_⟩:=evo
   rw[g2.held _ _ y] at he5
   rw[y];exact he5
  have gm2:G2 m1=some (.lst (ls.map λ x=>V.ref x.1)):=by
   obtain⟨dx1,v1,a1,a2,xs1,ys1,y,_,y2,_⟩:=evo
   rw[g2.held _ _ y] at he5
   have:=congrArg (λ o=>match o with|some (HO.ins _ _ fs)=>fs.lookup ("sent" : Str)|_=>none) he5
   have q1:some (V.ref a1)=some (V.ref m1):=by
    have:(evF v1 st' a1 a2).lookup ("sent" : Str)=(evF v st' m1 m2).lookup ("sent" : Str):=this
    rwa [eP,eP] at this
   cases q1
   rw[g2.held _ _ y2] at hm5
   rw[y2];exact hm5
  refine⟨_,rfl,q.p,q.dx,_,rfl,th2.self,rfl,_,rfl,G2,q,T0,e,_,rfl,th2,evo,by have:=tw.en;lia,λ G3 H6 g3 b3 th3=>?_⟩
  refine(sn ee4 λ rr5 ee5=>?_:rr4 _ _ _)
  have c3:=c2.iu hq g3 b3 th3
  obtain⟨T',hT'⟩:∃ T',T'={ T0 with evs:=T0.evs++[(⟨u,st',ls.map (λ x:Addr×Int×Int=>[PyData.int x.2.1,PyData.int x.2.2]),ws'.map PyData.int⟩:EvA)],down:=T0.hab.iu T0.down (T0.evs.length+1) }:=⟨_,rfl⟩
  rw[<- hT'] at th3 c3
  have el':T'.evs.length=T0.evs.length+1:=by rw[hT'];simp
  have twf':TWf (n+1) T':=by
   rw[hT']
   exact tw.iu
  have wf3:WfD A.many (cnt (A.ths.set j T')) A.A:=lo.wf.mono λ x=>rV hT (by lia) x
  obtain⟨lx,lgx,lln⟩:=lo.lg
  have d3:=lo.c.nd3
  have qI:∀ b∈[q.p,q.dn],b∈L.own A:=λ b hb=>BG _ (BS _ (bI hq b (by
   simp only[BF,BM,Ca] at hb ⊢
   rcases hb with h|h
   ·exact .inl h
   ·exact .inr (.inl h))))
  have bt6:But (L.own A) H H6:=λ b o nb y=>b3 b o (λ z=>nb (qI b z)) (s5 _ _ (s1 _ _ y))
  have lg6:H6 L.lg=some (.lst lx):=b3 _ _ (λ z=>(d3.2.2.1 L.lg (by simp)).1 (bI hq _ (by
   simp only[BF,BM,Ca] at z ⊢
   rcases z with h|h
   ·exact .inl h
   ·exact .inr (.inl h)))) (s5 _ _ (s1 _ _ lgx))
  have he6:H6 e=some (.ins t.c_Event dxe (evF v st' m1 m2)):=g3.held _ _ (g3.sub _ _ ge2)
  have hm6:H6 m1=some (.lst (ls.map λ x=>V.ref x.1)):=g3.held _ _ (g3.sub _ _ gm2)
  have hTj:(A.ths.set j T')[j]? = some T':=B8 (by rw[lo.c.len2];exact hj)
  have nfew:=lo.bn
  cases how with
  | own=>
   refine⟨_,rfl,rfl,_,rfl,cj rfl ?_⟩
   obtain⟨A1,hA1⟩:∃ A1,A1=A.A:=⟨_,rfl⟩
   have c7:LoC K t G3 H6 L { A with ths:=A.ths.set j T',A:=A1 }:=by rw[hA1];exact c3
   have wf7:WfD A.many (cnt (A.ths.set j T')) A1:=by rw[hA1];exact wf3
   have po7:A1.po=A.A.po:=by rw[hA1]
   have wl7:A1.wy.length=A.A.wy.length:=by rw[hA1]
   have fr7:∀ b∈L.D.own A1,b∈L.D.own A.A\/H b=none:=λ b hb=>.inl (by rw[hA1] at hb;exact hb)
   have th7:=c7.th j q T' hq hTj
   obtain⟨es7,hd7,ev7⟩:=th7.done
   have l7:es7.length=T0.evs.length+1:=by rw[ev7.1,el']
   have bt7:=bt6
   have lg7:=lg6
   have he7:=he6
   have hm7:=hm6
   subst ee5
   refine⟨_,rfl,L.p,L.dx,_,rfl,c7.self,rfl,_,rfl,_,rfl,q.p,q.dx,_,rfl,th7.self,rfl,q.p,q.dx,_,q.ha,q.dn,q.wr,_,es7,rfl,th7.self,SqL.of hd7,_,rfl,e,_,dxe,_,_,rfl,he7,T.cl_Event,T.na_ci,eP,?_⟩
   refine⟨G3,L.p,L.dx,L.dz,A.many,A.ord,L.lt,L.lg,L.D,A1,m1,j,es7.length,ls,A.many,cnt (A.ths.set j T'),rfl,c7.self,c7.di,wf7,(c7.nd3.2.2.1 L.p (by simp)).2,λ z=>?_,SqL.of hm7,few,λ x hx=>⟨g3.sub _ _ (g2.sub _ _ (by rw[z3 x.1 (BG _ (BX hx))];exact(hls x hx).1)),(hls x hx).2⟩,by lia,by lia,by lia,by rw[je (by rw[lo.c.len2];exact hj)];lia,λ l' hl' el'=>?_,by rw[po7];lia,by rw[wl7];lia,λ H8 A8 b8 d8 w8 e1 e2 e3 fr8=>?_⟩
   ·obtain⟨kvs,y⟩:=c7.di.isd z
    rw[hm7] at y;cases y
   ·rw[po7] at hl'
    have:=lo.wf.rg l' hl'
    rw[el',mZ hT] at this
    lia
   have in1:∀ b,b∈L.D.own A1->H b≠none->b∈L.own A:=λ b hb nb=>by
    rcases fr7 b hb with y|y
    ·exact BG _ (BG _ y)
    ·exact absurd y nb
   have bt8:But (L.own A) H H8:=λ b o nb z=>b8 b o (λ y=>nb (in1 b y (by rw[z];simp))) (bt7 b o nb z)
   refine k G3 H8 { A with ths:=A.ths.set j T',A:=A8 } bt8 ⟨c7.qF b8 d8 fr8,w8,⟨lx,b8 _ _ (c7.nd3.2.2.1 L.lg (by simp)).2 lg7,by lia⟩,λ T1 hT1=>?_,⟨?_,?_⟩,lo.m2,(λ ys hy x hx=>(lo.lr lx lgx x (by rw[b8 _ _ (c7.nd3.2.2.1 L.lg (by simp)).2 lg7] at hy;cases hy;exact hx)).keep λ b xs e=>bt8 _ _ (lo.c.tQ e) e),(by show (A.ths.set j T').map (·.hab)=L.habs;rw[jZ hT (by rw[hT'])];exact lo.hb)⟩ rfl rfl ⟨lx,lgx,b8 _ _ (c7.nd3.2.2.1 L.lg (by simp)).2 lg7,lln⟩ λ b hb=>?_
   ·rcases ER hT1 with y|y
    ·exact(lo.tw T1 y).more
    ·rw[y];exact twf'
   ·show A8.po.length<=_
    have:=lo.bn.1
    rw[e2,po7];lia
   ·show A8.wy.length<=_
    have:=lo.bn.2
    rw[wl7] at e3;lia
   ·rcases BH.mp (show b∈[L.p,L.lt,L.lg]++(bV L.ths++L.D.own A8) from hb) with y|y
    ·exact .inl (BS _ y)
    ·rcases BH.mp y with y|y
     ·exact .inl (BG _ (BS _ y))
     ·rcases fr8 b y with y|y
      ·rcases fr7 b y with y|y
       ·exact .inl (BG _ (BG _ y))
       ·exact .inr y
      ·by_cases nb:b∈L.own A
       ·exact .inl nb
       ·cases hb':H b with
        | none=>exact .inr rfl
        | some o=>rw[bt7 b o nb hb'] at y;cases y
  | @use b l hb hl nt to=>
   refine⟨_,rfl,rfl,_,rfl,f7 rfl ?_⟩
   have th6:=c3.th j q T' hq hTj
   obtain⟨es6,hd6,ev6⟩:=th6.done
   have l6:es6.length=T0.evs.length+1:=by rw[ev6.1,el']
   have nbo:∀ c∈L.own A,b≠c:=λ c hc y=>lo.c.uN c hc (nV l.nm) (by rw[<- y];exact hb)
   have hb6:H6 b=some (.tup ((nk l.nm).map kV)):=bt6 _ _ (λ y=>nbo b y rfl) hb
   have v1:bL (A.A.ta.map λ e=>(nk e.1,V.int e.2)) (nk l.nm)=none:=fz (λ e:Nm3×Int=>nk e.1) (λ e=>V.int e.2) λ e he y=>nt (by rw[<- cm _ _ y];exact BX he)
   have lta:A.A.ta.length<=A.A.po.length:=by
    have:=kT (b:=A.A.po.map (·.nm)) lo.wf.nt λ z hz=>by
     obtain⟨e,he,rfl⟩:=BV.mp hz
     obtain⟨l',hl',y,_⟩:=lo.wf.tp e he
     rw[<- y];exact BX hl'
    rwa [BB,BB] at this
   refine⟨_,rfl,q.p,q.dx,_,rfl,th6.self,rfl,q.p,q.dx,_,q.ha,q.dn,q.wr,_,es6,rfl,th6.self,SqL.of hd6,_,rfl,L.p,_,L.dx,_,_,rfl,c3.self,T.cl_Loom,T.na_ck,rfl,_,rfl,L.D.ta,_,rfl,.inr ⟨_,nk l.nm,b,c3.di.ta,rfl,hb6,bg (by rw[BB];show A.A.ta.length<=1000;lia),rfl⟩,?_⟩
   rw[fX _ v1]
   obtain⟨e0,he0,k0⟩:=lo.wf.wa l hl nt
   have taI:L.D.ta∈L.D.own A.A:=by unfold DiL.own;simp
   have wyI:L.D.wy∈L.D.own A.A:=by unfold DiL.own;simp
   have e0I:e0.2.1∈L.D.own A.A:=DiL.dX he0
   have DI:∀ c,c∈L.D.own A.A->c∈L.own A:=λ c hc=>BG _ (BG _ hc)
   obtain⟨x1,x2,x3,x4,x5⟩:=c3.di.nes
   have pta:L.p≠L.D.ta:=λ y=>(d3.2.2.1 L.p (by simp)).2 (by rw[y];exact taI)
   have wta:L.D.wy≠L.D.ta:=Ne.symm x3
   have eta:e0.2.1≠L.D.ta:=(x4 e0 he0).2.1
   have bta:b≠L.D.ta:=nbo _ (DI _ taI)
   refine⟨_,rfl,L.p,_,L.dx,_,_,rfl,by rw[aE pta];exact c3.self,T.cl_Loom,T.na_ct,rfl,_,rfl,b,nV l.nm,0,.int l.nm.1,rfl,rfl,SqT.of (by rw[aE bta];exact hb6),b9,_,rfl,by show 2<=sizeLine;decide,λ kb hkb=>?_⟩
   have v2:bL (A.A.wy.map λ e=>(wk e.1,V.ref e.2.1)) (wk (l.nm.1,(j:Int)))=some (.ref e0.2.1):=by
    rw[<- to,<- k0]
    exact ck (λ e=>wk e.1) (λ e=>V.ref e.2.1) (cJ (f:=λ x:(Int×Int)×Addr×List Nm3=>x.1) nC lo.wf.wn) he0
   have v3:bL (e0.2.2.map λ n=>(nk n,V.bl true)) (nk l.nm)=some (.bl true):=ck nk (λ _=>V.bl true) (uX cm (lo.wf.wd e0 he0)) ((lo.wf.wi e0 he0 l.nm).mpr ⟨l,hl,rfl,by rw[k0],by rw[k0],nt⟩)
   have up:∀ c o,c≠L.D.ta->H6 c=some o->upd (upd H6 L.D.ta (.dT ((A.A.ta.map λ e=>(nk e.1,V.int e.2))++[(nk l.nm,V.int es6.length)]))) kb (.tup [.int l.nm.1,.int j]) c=some o:=λ c o nc y=>by
    rw[aE (aF (o:=o) (by rw[aE nc];exact y) hkb),aE nc];exact y
   have way6:=up _ _ eta (c3.di.ways e0 he0)
   have ta6:upd (upd H6 L.D.ta (.dT ((A.A.ta.map λ e=>(nk e.1,V.int e.2))++[(nk l.nm,V.int es6.length)]))) kb (.tup [.int l.nm.1,.int j]) L.D.ta=some (.dT ((A.A.ta.map λ e=>(nk e.1,V.int e.2))++[(nk l.nm,V.int es6.length)])):=by rw[aE (aF aD hkb),aD]
   refine⟨L.D.wy,.ref e0.2.1,rfl,.inr ⟨_,wk (l.nm.1,(j:Int)),kb,.inl (up _ _ wta c3.di.wy),rfl,aD,v2.symm⟩,.inr (.inr (.inl ⟨rfl,.inr ⟨_,way6⟩⟩)),_,rfl,e0.2.1,b,_,nk l.nm,.bl true,rfl,rfl,way6,up _ _ bta hb6,v3,?_⟩
   rw[mQ]
   obtain⟨d7,own7⟩:=c3.di.take (l:=l) (pl:=es6.length) (e0:=e0) (H':=upd (upd (upd H6 L.D.ta (.dT ((A.A.ta.map λ e=>(nk e.1,V.int e.2))++[(nk l.nm,V.int es6.length)]))) kb (.tup [.int l.nm.1,.int j])) e0.2.1 (.dT ((e0.2.2.filter λ x=>decide (x≠l.nm)).map λ n=>(nk n,V.bl true)))) lo.wf.wn he0 k0 (by rw[aE (Ne.symm eta)];exact ta6) aD (λ c o n1 n2 _ y=>by rw[aE n2];exact up c o n1 y) (λ c o y=>by rw[aE (aF y (c3.di.gn _ e0I))];exact up c o (aF y (c3.di.gn _ taI)) (c3.di.held _ _ y))
   have b67:But (L.D.own A.A) H6 (upd (upd (upd H6 L.D.ta (.dT ((A.A.ta.map λ e=>(nk e.1,V.int e.2))++[(nk l.nm,V.int es6.length)]))) kb (.tup [.int l.nm.1,.int j])) e0.2.1 (.dT ((e0.2.2.filter λ x=>decide (x≠l.nm)).map λ n=>(nk n,V.bl true)))):=λ c o nc y=>by
    rw[aE (λ z=>nc (by rw[z];exact e0I))];exact up c o (λ z=>nc (by rw[z];exact taI)) y
   generalize upd (upd (upd H6 L.D.ta (.dT ((A.A.ta.map λ e=>(nk e.1,V.int e.2))++[(nk l.nm,V.int es6.length)]))) kb (.tup [.int l.nm.1,.int j])) e0.2.1 (.dT ((e0.2.2.filter λ x=>decide (x≠l.nm)).map λ n=>(nk n,V.bl true)))=H7 at d7 b67 ⊢
   have wf7':WfD A.many (cnt (A.ths.set j T')) (A.A.take l es6.length):=wf3.take hl nt (by rw[to,je (by rw[lo.c.len2];exact hj)];lia) (by lia)
   have c7':LoC K t G3 H7 L { A with ths:=A.ths.set j T',A:=A.A.take l es6.length }:=c3.qF b67 d7 λ c hc=>.inl (by rw[own7] at hc;exact hc)
   obtain⟨A1,hA1⟩:∃ A1,A1=A.A.take l es6.length:=⟨_,rfl⟩
   rw[<- hA1] at c7' wf7' own7
   have c7:=c7'
   have wf7:=wf7'
   have po7:A1.po=A.A.po:=by rw[hA1];rfl
   have wl7:A1.wy.length=A.A.wy.length:=by rw[hA1];show (fG _ _ _).length=_;unfold fG;rw[BB]
   have fr7:∀ b∈L.D.own A1,b∈L.D.own A.A\/H b=none:=λ b hb=>.inl (by rw[own7] at hb;exact hb)
   have th7:=c7.th j q T' hq hTj
   obtain⟨es7,hd7,ev7⟩:=th7.done
   have l7:es7.length=T0.evs.length+1:=by rw[ev7.1,el']
   have bt7:But (L.own A) H H7:=λ c o nc y=>b67 c o (λ z=>nc (DI c z)) (bt6 c o nc y)
   have lg7:H7 L.lg=some (.lst lx):=b67 _ _ (d3.2.2.1 L.lg (by simp)).2 lg6
   have he7:H7 e=some (.ins t.c_Event dxe (evF (.ref b) st' m1 m2)):=c7.held _ _ (g3.sub _ _ ge2)
   have hm7:H7 m1=some (.lst (ls.map λ x=>V.ref x.1)):=c7.held _ _ (g3.sub _ _ gm2)
   subst ee5
   refine⟨_,rfl,L.p,L.dx,_,rfl,c7.self,rfl,_,rfl,_,rfl,q.p,q.dx,_,rfl,th7.self,rfl,q.p,q.dx,_,q.ha,q.dn,q.wr,_,es7,rfl,th7.self,SqL.of hd7,_,rfl,e,_,dxe,_,_,rfl,he7,T.cl_Event,T.na_ci,eP,?_⟩
   refine⟨G3,L.p,L.dx,L.dz,A.many,A.ord,L.lt,L.lg,L.D,A1,m1,j,es7.length,ls,A.many,cnt (A.ths.set j T'),rfl,c7.self,c7.di,wf7,(c7.nd3.2.2.1 L.p (by simp)).2,λ z=>?_,SqL.of hm7,few,λ x hx=>⟨g3.sub _ _ (g2.sub _ _ (by rw[z3 x.1 (BG _ (BX hx))];exact(hls x hx).1)),(hls x hx).2⟩,by lia,by lia,by lia,by rw[je (by rw[lo.c.len2];exact hj)];lia,λ l' hl' el'=>?_,by rw[po7];lia,by rw[wl7];lia,λ H8 A8 b8 d8 w8 e1 e2 e3 fr8=>?_⟩
   ·obtain⟨kvs,y⟩:=c7.di.isd z
    rw[hm7] at y;cases y
   ·rw[po7] at hl'
    have:=lo.wf.rg l' hl'
    rw[el',mZ hT] at this
    lia
   have in1:∀ b,b∈L.D.own A1->H b≠none->b∈L.own A:=λ b hb nb=>by
    rcases fr7 b hb with y|y
    ·exact BG _ (BG _ y)
    ·exact absurd y nb
   have bt8:But (L.own A) H H8:=λ b o nb z=>b8 b o (λ y=>nb (in1 b y (by rw[z];simp))) (bt7 b o nb z)
   refine k G3 H8 { A with ths:=A.ths.set j T',A:=A8 } bt8 ⟨c7.qF b8 d8 fr8,w8,⟨lx,b8 _ _ (c7.nd3.2.2.1 L.lg (by simp)).2 lg7,by lia⟩,λ T1 hT1=>?_,⟨?_,?_⟩,lo.m2,(λ ys hy x hx=>(lo.lr lx lgx x (by rw[b8 _ _ (c7.nd3.2.2.1 L.lg (by simp)).2 lg7] at hy;cases hy;exact hx)).keep λ b xs e=>bt8 _ _ (lo.c.tQ e) e),(by show (A.ths.set j T').map (·.hab)=L.habs;rw[jZ hT (by rw[hT'])];exact lo.hb)⟩ rfl rfl ⟨lx,lgx,b8 _ _ (c7.nd3.2.2.1 L.lg (by simp)).2 lg7,lln⟩ λ b hb=>?_
   ·rcases ER hT1 with y|y
    ·exact(lo.tw T1 y).more
    ·rw[y];exact twf'
   ·show A8.po.length<=_
    have:=lo.bn.1
    rw[e2,po7];lia
   ·show A8.wy.length<=_
    have:=lo.bn.2
    rw[wl7] at e3;lia
   ·rcases BH.mp (show b∈[L.p,L.lt,L.lg]++(bV L.ths++L.D.own A8) from hb) with y|y
    ·exact .inl (BS _ y)
    ·rcases BH.mp y with y|y
     ·exact .inl (BG _ (BS _ y))
     ·rcases fr8 b y with y|y
      ·rcases fr7 b y with y|y
       ·exact .inl (BG _ (BG _ y))
       ·exact .inr y
      ·by_cases nb:b∈L.own A
       ·exact .inl nb
       ·cases hb':H b with
        | none=>exact .inr rfl
        | some o=>rw[bt7 b o nb hb'] at y;cases y
section
variable {G H G' H':Hp}{L:LoL}{A:LoA}
theorem LoC.v7 (c:LoC K t G H L A) {ys:List V}(bt:But [L.lg] H H') (h:H' L.lg=some (.lst ys)):LoC K t G H' L A:=by
 obtain⟨d1,d2,d3,d4⟩:=c.nd3
 have glg:G L.lg=none:=c.gn _ (BS _ (by simp))
 have held:aL G H':=λ b o e=>bt b o (by rw[BD];exact aF e glg) (c.held _ _ e)
 simp only[CC,BF,BM,Ca,DW] at d1
 have n0:∀ b,b≠L.lg->b∉[L.lg]:=λ b h=>by rw[BD];exact h
 have dis:∀ b,(b∈bV L.ths\/b∈L.D.own A.A)->b≠L.lg:=λ b hb z=>by
  rcases hb with hb|hb
  ·exact(d3 L.lg (by simp)).1 (by rw[<- z];exact hb)
  ·exact(d3 L.lg (by simp)).2 (by rw[<- z];exact hb)
 refine⟨bt _ _ (n0 _ d1.1.2) c.self,bt _ _ (n0 _ d1.2.1) c.tl,λ i q T hq hT=>?_,c.len1,c.len2,⟨ys,h⟩,?_,c.clo,held,c.gn,c.nd⟩
 ·exact(c.th i q T hq hT).keep (.refl _) held (λ b o hb e=>bt b o (n0 _ (dis b (.inl (bI hq b hb)))) e) λ b hb=>c.gn b (BG _ (BS _ (bI hq b hb)))
 ·exact c.di.frame (λ b o hb e=>bt b o (n0 _ (dis b (.inr hb))) e) held
theorem Lo.same (lo:Lo K t G H L A n) (s:aL H H'):Lo K t G H' L A n:=
 let ⟨xs,h,F⟩:=lo.lg
 ⟨lo.c.frame (.refl _) (lo.c.held.trans s) (λ b o _ e=>s _ _ e) lo.c.gn,lo.wf,⟨xs,s _ _ h,F⟩,lo.tw,lo.bn,lo.m2,λ ys j x q=>(lo.lr xs h x (by rw[s _ _ h] at j;cases j;exact q)).keep λ b xs e=>s _ _ e,lo.hb⟩
theorem Lo.note (lo:Lo K t G H L A (n+1)) (q:But [L.lg] H H') (h:H' L.lg=some (.lst ys)) (M:ys.length<=n+1) (F:∀ x∈ys,mT H' x):Lo K t G H' L A (n+1):=
 ⟨lo.c.v7 q h,lo.wf,⟨ys,h,M⟩,lo.tw,lo.bn,lo.m2,λ zs j x J=>F x (by rw[h] at j;cases j;exact J),lo.hb⟩
theorem kq (lo:Lo K t G H L A (n+1)) (hn:n<30) (W:j<A.many) (M:H L.lg=some (.lst U)) (le:U.length<=n) (hr:rP H r) (k:∀ H',But [L.lg] H H'->Lo K t G H' L A (n+1)->Q .non H') :
  vx t [.ref L.p,.int j,.ref r] H Q E:=by
 obtain⟨q,Y⟩:∃ q,L.ths[j]? = some q:=⟨_,Bz (by rw[lo.c.len1];exact W)⟩
 obtain⟨J,hT⟩:∃ J,A.ths[j]? = some J:=⟨_,Bz (by rw[lo.c.len2];exact W)⟩
 have th:=lo.c.th j q J Y hT
 obtain⟨es,hd,Z⟩:=th.done
 have O:(L.ths.map λ q=>V.ref q.p)[j]? = some (.ref q.p):=by rw[BC,Y];rfl
 refine⟨L.p,L.dx,L.dz,A.many,A.ord,L.lt,L.lg,L.D,j,r,q.p,_,U,q.dx,_,q.ha,q.dn,q.wr,_,es,rfl,lo.c.self,lo.c.tl,M,by lia,O,th.self,hd,λ e pl H' b h he=>k H' b (lo.note b h (by rw[BL,B3];lia) λ x F=>?_)⟩
 have tk:∀ c xs,H c=some (.tup xs)->H' c=some (.tup xs):=λ c xs z=>b _ _ (by rw[BD];exact dG z M (by simp)) z
 rcases BH.mp F with F|F
 ·exact(lo.lr U M x F).keep tk
 ·rw[BD] at F
  exact⟨e,r,pl,F,he,hr.keep tk⟩
end
theorem kI (h:∀ T∈j,TWf n T) (x):cnt j x<=n:=by
 unfold cnt
 cases e:j[x.toNat]? with
 | none=>dsimp only;lia
 | some T=>
  have:=(h T (BJ e)).en
  dsimp only;lia
noncomputable def zA (K:W.Frag) (t:Adr):Sp:=λ vs H Q _=>∃ G L A n,∃ j:Nat,vs=[.ref L.p,.int j]/\Lo K t G H L A n/\n<30/\j<A.many /\
 ∀ G' H' A',But (L.own A) H H'->Lo K t G' H' L A' (n+1)->A'.many=A.many->A'.ord=A.ord->(∀ b∈L.own A',b∈L.own A\/H b=none)->Q .non H'
theorem AY (T:Txt K mg t):bB P w K mg base (CXr P w) 6 t.f_cw t.fd_cw ["self","hand"] (zA K t):=by
 refine T.F_cw.okN AD (λ vs H Q E h=>?_) (λ a1 A outer s H vs Q E q h=>?_)
 ·obtain⟨G,L,A,n,j,rfl,_⟩:=h;rfl
 ·obtain⟨G,L,A,n,j,rfl,lo,Z,W,k⟩:=h
  refine⟨_,(aH (bh (bj (pv 0) T.cl_Loom T.me_am (nU (K:=K) T) (q.mono (by decide)) T.b_am .nil aK (aI (pv 1) aG)))
   (aH (bh (bj (pv 0) T.cl_Loom T.me_be (uH (K:=K) T) (q.mono (by decide)) T.b_be .nil aK (aI (pv 1) (aI gJ (aI gJ aG)))))
   (aJ (bh (bj (pv 0) T.cl_Loom T.me_aw (qM (K:=K) T) (q.mono (by decide)) T.b_aw .nil aK (aI (pv 1) (aI (cf (aI dD (aI (pv 1) aG))) aG))))))),?_⟩
  refine⟨_,rfl,L.p,L.dx,_,rfl,lo.c.self,rfl,_,rfl,L.p,L.dx,L.dz,A.many,A.ord,L.lt,L.lg,L.D,j,rfl,lo.c.self,by lia,by lia,?_⟩
  refine⟨_,rfl,L.p,L.dx,_,rfl,lo.c.self,rfl,_,rfl,G,L,A,n,j,.non,.non,rfl,lo,Z,W,.own,λ G' H' A' bt F V eo M fr=>?_⟩
  obtain⟨lx,_,J,ll⟩:=M
  refine⟨_,rfl,L.p,L.dx,_,rfl,F.c.self,rfl,_,rfl,_,rfl,by show 2<=sizeLine;decide,λ r q=>?_⟩
  have U:aL H' (upd H' r (.tup [.str "own",.int j])):=aL.new q
  refine kq (E:=λ _ _ _=>False) (F.same U) Z (by rw[V];exact W) (U _ _ J) ll (.inl ⟨_,_,aD,by decide +kernel⟩) λ H3 b3 O=>k G' H3 A' (λ b o Y e=>b3 b o (λ z=>Y ?_) (U _ _ (bt b o Y e))) O V eo fr
  rw[BD] at z
  rw[z];exact BS _ (by simp)
noncomputable def ye (K:W.Frag) (t:Adr):Sp:=λ vs H Q _=>∃ G L A n,∃ j:Nat,∃ b l,vs=[.ref L.p,.int j,.ref b]/\Lo K t G H L A n/\n<30/\j<A.many/\H b=some (.tup (nV l.nm))/\l∈A.A.po/\l.nm∉A.A.ta.map (·.1)/\l.to=j/\(A.ord=true->∀ l'∈A.A.po,l'.nm∉A.A.ta.map (·.1)->l'.nm.1=l.nm.1->l'.to=l.to->cd3 l.nm<=cd3 l'.nm) /\
 ∀ G' H' A',But (L.own A) H H'->Lo K t G' H' L A' (n+1)->A'.many=A.many->A'.ord=A.ord->(∀ b∈L.own A',b∈L.own A\/H b=none)->Q .non H'
theorem xE (T:Txt K mg t):bB P w K mg base (CXr P w) 6 t.f_cx t.fd_cx ["self","hand","name"] (ye K t):=by
 refine T.F_cx.okN Bc (λ vs H Q E h=>?_) (λ cdv A outer s H vs Q E hr h=>?_)
 ·obtain⟨G,L,A,n,j,b,l,rfl,_⟩:=h;rfl
 ·obtain⟨G,L,A,n,j,b,l,rfl,lo,nn,hj,hb,hl,nt,to,od,k⟩:=h
  refine⟨_,(aH (bh (bj (pv 0) T.cl_Loom T.me_am (nU (K:=K) T) (hr.mono (by decide)) T.b_am .nil aK (aI (pv 1) aG)))
   (aH (bQ (cY (cI (bj (pv 0) T.cl_Loom T.me_bc (xI (K:=K) T) (hr.mono (by decide)) T.b_bc .nil aK (aI (pv 1) (aI (pv 2) aG)))))
    (aJ il)
    bu)
   (aH (bh (bj (pv 0) T.cl_Loom T.me_be (uH (K:=K) T) (hr.mono (by decide)) T.b_be .nil aK (aI (pv 1) (aI (pv 2) (aI (bb (bz (K:=K)) (df (cy hr) (aO (K:=K) (pv 0) rfl) (pv 2) (λ _ _=>rfl)) aN (λ _ _=>rfl)) aG)))))
   (aJ (bh (bj (pv 0) T.cl_Loom T.me_aw (qM (K:=K) T) (hr.mono (by decide)) T.b_aw .nil aK (aI (pv 1) (aI (cf (aI dD (aI (pv 1) (aI (pv 2) aG)))) aG)))))))),?_⟩
  obtain⟨e0,he0,k0⟩:=lo.wf.wa l hl nt
  have small:∀ l∈A.A.po,Small l.nm:=λ l hl=>by
   obtain⟨r1,r2,r3,r4,r5,r6,_⟩:=lo.wf.rg l hl
   have:=kI lo.tw l.nm.1
   exact⟨by lia,by lia,by lia,by lia⟩
  refine⟨_,rfl,L.p,L.dx,_,rfl,lo.c.self,rfl,_,rfl,L.p,L.dx,L.dz,A.many,A.ord,L.lt,L.lg,L.D,j,rfl,lo.c.self,by lia,by lia,?_⟩
  refine⟨_,rfl,L.p,L.dx,_,rfl,lo.c.self,rfl,_,rfl,_,rfl,G,L.p,L.dx,L.dz,A.many,A.ord,L.lt,L.lg,L.D,A.A,j,b,l.nm,e0,rfl,lo.c.self,lo.c.di,hb,he0,lo.wf.wn,by rw[k0,to],(lo.wf.wi e0 he0 l.nm).mpr ⟨l,hl,rfl,by rw[k0],by rw[k0],nt⟩,lo.wf.wd e0 he0,λ m hm=>?_,λ ot m hm=>?_,λ H1 s1=>⟨true,rfl,gy ?_⟩⟩
  ·obtain⟨l',hl',rfl,_⟩:=(lo.wf.wi e0 he0 m).mp hm
   exact small l' hl'
  ·obtain⟨l',hl',rfl,z1,z2,z3⟩:=(lo.wf.wi e0 he0 m).mp hm
   exact od ot l' hl' z3 (by rw[z1,k0]) (by rw[z2,k0])
  have lo1:=lo.same s1
  have v1:bL (A.A.po.map λ l=>(nk l.nm,V.ref l.adr)) (nk l.nm)=some (.ref l.adr):=ck (λ l:cQ=>nk l.nm) (λ l=>V.ref l.adr) (cJ (f:=cQ.nm) cm lo.wf.nd) hl
  refine⟨_,rfl,L.p,L.dx,_,rfl,lo1.c.self,rfl,_,rfl,_,rfl,_,rfl,L.p,_,L.dx,_,_,rfl,lo1.c.self,T.cl_Loom,T.na_bz,rfl,_,rfl,L.D.po,.ref l.adr,rfl,.inr ⟨_,nk l.nm,b,.inl lo1.c.di.po,rfl,s1 _ _ hb,v1.symm⟩,l.adr,_,1,.int l.wd,rfl,rfl,SqT.of (lo1.c.held _ _ (lo1.c.di.lets l hl)),rfl,?_⟩
  refine⟨G,L,A,n,j,.ref b,.int l.wd,rfl,lo1,nn,hj,.use (s1 _ _ hb) hl nt to,λ G' H' A' bt lo' em eo lgs fr=>?_⟩
  obtain⟨lx,_,lg',ll⟩:=lgs
  refine⟨_,rfl,L.p,L.dx,_,rfl,lo'.c.self,rfl,_,rfl,_,rfl,_,rfl,by show 3<=sizeLine;decide,λ r hr=>?_⟩
  have s2:aL H' (upd H' r (.tup [.str "use",.int j,.ref b])):=aL.new hr
  refine kq (E:=λ _ _ _=>False) (lo'.same s2) nn (by rw[em];exact hj) (s2 _ _ lg') ll (.inr ⟨_,_,_,_,aD,s2 _ _ (bt _ _ (lo1.c.tQ (s1 _ _ hb)) (s1 _ _ hb)),by decide +kernel⟩) λ H3 b3 lo3=>k G' H3 A' (λ b o nb e=>b3 b o (λ z=>nb ?_) (s2 _ _ (bt b o nb (s1 _ _ e)))) lo3 em eo λ b hb=>(fr b hb).elim .inl λ z=>.inr (s1.free z)
  rw[BD] at z
  rw[z];exact BS _ (by simp)
theorem LoC.zg {G H G' H':Hp}{L:LoL}{A:LoA}(c:LoC K t G H L A) {j:Nat}{q:ThL}{T':ThA}(hq:L.ths[j]? = some q) (g:fD H G G' H') (bt:But [q.p,q.dn,q.wr] H H') (th:Th K t G' H' q T'):LoC K t G' H' L { A with ths:=A.ths.set j T' }:=by
 obtain⟨d1,d2,d3,d4⟩:=c.nd3
 have gn:∀ b∈L.own A,G' b=none:=λ b hb=>g.free (c.lS b hb) (c.gn b hb)
 have qin:∀ b∈[q.p,q.dn,q.wr],b∈bV L.ths:=bI hq
 have n1:∀ b∈[L.p,L.lt,L.lg],b∉[q.p,q.dn,q.wr]:=λ b hb z=>(d3 b hb).1 (qin b z)
 have n2:∀ b∈L.D.own A.A,b∉[q.p,q.dn,q.wr]:=λ b hb z=>d4 b (qin b z) hb
 obtain⟨xs,hx⟩:=c.log
 refine⟨bt _ _ (n1 _ (by simp)) c.self,bt _ _ (n1 _ (by simp)) c.tl,λ i r T hr hT=>?_,c.len1,by rw[DU];exact c.len2,⟨xs,bt _ _ (n1 _ (by simp)) hx⟩,?_,c.clo.same λ b o u e=>g.sub _ _ e,g.held,gn,c.nd⟩
 ·by_cases e:i=j
  ·subst e
   rw[hq] at hr;cases hr
   have hi:i<A.ths.length:=by
    have:=(BE.mp hq).1
    rw[c.len2,<- c.len1];exact this
   have hT':(A.ths.set i T')[i]? = some T:=hT
   rw[B8 hi] at hT'
   cases hT'
   exact th
  ·have hT':(A.ths.set j T')[i]? = some T:=hT
   rw[Cp (Ne.symm e)] at hT'
   exact(c.th i r T hr hT').keep g.sub g.held (λ b o hb z=>bt b o (mx d2 hr hq e b hb) z) λ b hb=>gn b (BG _ (BS _ (bI hr b hb)))
 ·have:=c.di.frame (H':=H') (λ b o hb e=>bt b o (n2 b hb) e) (λ b o e=>g.held _ _ (g.sub _ _ e))
  exact⟨this.po,this.ta,this.wy,this.ways,λ l hl=>g.sub _ _ (c.di.lets l hl),g.held,c.di.nd,λ b hb=>gn b (BG _ (BG _ hb))⟩
theorem TWf.wrote {n:Nat}{T:ThA}(w:TWf n T):TWf (n+1) T.wrote/\T.wrote.evs=T.evs:=by
 unfold ThA.wrote
 by_cases h:(T.evs.length:Int)∈T.ws
 ·rw[BN h];exact⟨w.more,rfl⟩
 ·rw[BI h]
  have dn:=w.dn
  obtain⟨w0,ws,e⟩:=w.ws
  refine⟨⟨⟨w0,ws++[(T.evs.length:Int)],by show T.ws++_=_;rw[e];rfl⟩,λ z hz=>?_,?_,by have:=w.en;show T.evs.length<=_;lia,?_,by show (T.ws++_).head? = _;have:=w.w0;rw[e] at this ⊢;exact this,?_,λ e=>?_⟩,rfl⟩
  ·rcases BH.mp (show z∈T.ws++[(T.evs.length:Int)] from hz) with y|y
   ·exact w.rg z y
   ·rw[BD] at y
    subst y
    exact⟨by lia,CS _⟩
  ·show T.hab.dR T.down T.evs.length<=_
   cases T.hab with
   | never=>exact dn
   | each=>exact dn
   | bundle m=>exact CS _
  ·show (T.ws++[(T.evs.length:Int)]).length<=_
   have:=w.wn
   rw[BL,B3];lia
  ·show 0<=T.hab.dR T.down T.evs.length
   have:=w.d0
   cases T.hab with
   | never=>exact this
   | each=>exact this
   | bundle m=>show (0:Int)<=T.evs.length;lia
  ·have e':T.hab=.each:=e
   show T.hab.dR T.down T.evs.length=T.evs.length
   have:=w.ea e'
   rw[e'];exact this
noncomputable def yx (K:W.Frag) (t:Adr):Sp:=λ vs H Q _=>∃ G L A n,∃ j:Nat,vs=[.ref L.p,.int j]/\Lo K t G H L A n/\n<30/\j<A.many /\
 ∀ G' H' A',But (L.own A) H H'->Lo K t G' H' L A' (n+1)->A'.many=A.many->A'.ord=A.ord->(∀ b∈L.own A',b∈L.own A\/H b=none)->Q .non H'
theorem xS (T:Txt K mg t):bB P w K mg base (CXr P w) 3 t.f_ce t.fd_ce ["self","hand"] (yx K t):=by
 refine T.F_ce.okN xB (λ vs H Q E h=>?_) (λ cdv A outer s H vs Q E hr h=>?_)
 ·obtain⟨G,L,A,n,j,rfl,_⟩:=h;rfl
 ·obtain⟨G,L,A,n,j,rfl,lo,nn,hj,k⟩:=h
  refine⟨_,(aH (bh (bj (pv 0) T.cl_Loom T.me_am (nU (K:=K) T) (hr.mono (by decide)) T.b_am .nil aK (aI (pv 1) aG)))
   (aH (bh (aU (bb (aZ (K:=K)) (aO (K:=K) (pv 0) rfl) (pv 1) (λ _ _=>rfl)) T.cl_Thread T.me_bb (xk (K:=K) T) (hr.mono (by decide)) T.b_bb .nil aK))
   (aJ (bh (bj (pv 0) T.cl_Loom T.me_aw (qM (K:=K) T) (hr.mono (by decide)) T.b_aw .nil aK (aI (pv 1) (aI (cf (aI dD (aI (pv 1) aG))) aG))))))),?_⟩
  obtain⟨q,hq⟩:∃ q,L.ths[j]? = some q:=⟨_,Bz (by rw[lo.c.len1];exact hj)⟩
  obtain⟨T0,hT⟩:∃ T0,A.ths[j]? = some T0:=⟨_,Bz (by rw[lo.c.len2];exact hj)⟩
  have th:=lo.c.th j q T0 hq hT
  have tw:=lo.tw T0 (BJ hT)
  have hqs:(L.ths.map λ q=>V.ref q.p)[j]? = some (.ref q.p):=by rw[BC,hq];rfl
  refine⟨_,rfl,L.p,L.dx,_,rfl,lo.c.self,rfl,_,rfl,L.p,L.dx,L.dz,A.many,A.ord,L.lt,L.lg,L.D,j,rfl,lo.c.self,by lia,by lia,?_⟩
  refine⟨_,rfl,L.p,_,L.dx,_,_,rfl,lo.c.self,T.cl_Loom,T.na_bj,rfl,_,rfl,L.lt,_,j,.ref q.p,rfl,rfl,SqL.of lo.c.tl,cM hqs,q.p,q.dx,_,rfl,th.self,rfl,G,q,T0,rfl,th,by have:=tw.wn;lia,λ H1 b1 th1=>?_⟩
  obtain⟨tw1,ev1⟩:=tw.wrote
  have g1:fD H G G H1:=⟨.refl _,th1.held,λ _ _ e=>.inl e⟩
  have b1':But [q.p,q.dn,q.wr] H H1:=b1.mono λ b hb=>by
   simp only[BF,BM,Ca] at hb ⊢
   rcases hb with h|h
   ·exact .inl h
   ·exact .inr (.inr h)
  have c1:=lo.c.zg hq g1 b1' th1
  have qI:∀ b∈[q.p,q.dn,q.wr],b∈L.own A:=λ b hb=>BG _ (BS _ (bI hq b hb))
  obtain⟨lx,lgx,ll⟩:=lo.lg
  have lg1:H1 L.lg=some (.lst lx):=b1' _ _ (λ z=>(lo.c.nd3.2.2.1 L.lg (by simp)).1 (bI hq _ z)) lgx
  have lo1:Lo K t G H1 L { A with ths:=A.ths.set j T0.wrote } (n+1):=by
   refine⟨c1,lo.wf.mono λ x=>rV hT (by rw[ev1];exact Nat.le_refl _) x,⟨lx,lg1,by lia⟩,λ T1 hT1=>?_,?_,lo.m2,λ ys hy x hx=>?_,?_⟩
   ·rcases ER hT1 with y|y
    ·exact(lo.tw T1 y).more
    ·rw[y];exact tw1
   ·have:=lo.bn
    exact⟨by show A.A.po.length<=_;lia,by show A.A.wy.length<=_;lia⟩
   ·rw[lg1] at hy;cases hy
    exact(lo.lr lx lgx x hx).keep λ b xs e=>b1' _ _ (λ z=>lo.c.tQ e (qI b z)) e
   ·show (A.ths.set j T0.wrote).map (·.hab)=L.habs
    rw[jZ hT (by unfold ThA.wrote;split<;>rfl)];exact lo.hb
  refine⟨_,rfl,L.p,L.dx,_,rfl,lo1.c.self,rfl,_,rfl,_,rfl,by show 2<=sizeLine;decide,λ r hr=>?_⟩
  have s2:aL H1 (upd H1 r (.tup [.str "write",.int j])):=aL.new hr
  refine kq (E:=λ _ _ _=>False) (lo1.same s2) nn hj (s2 _ _ lg1) ll (.inl ⟨_,_,aD,by decide +kernel⟩) λ H3 b3 lo3=>k G H3 _ (λ b o nb e=>b3 b o (λ z=>nb ?_) (s2 _ _ (b1' b o (λ z=>nb (qI b z)) e))) lo3 rfl rfl λ b hb=>.inl hb
  rw[BD] at z
  rw[z];exact BS _ (by simp)
noncomputable def AQ (K:W.Frag) (t:Adr):Sp:=λ vs H Q _=>∃ G L A n,vs=[.ref L.p]/\Lo K t G H L A n/\∀ l H',aL H H'->H l=none->H' l=some (.lst (iV (A.ths.map λ T=>(T.evs.length:Int))))->Q (.ref l) H'
theorem vf (T:Txt K mg t):bB P w K mg base (CXr P w) 2 t.f_br t.fd_br ["self"] (AQ K t):=by
 refine T.F_br.okN zI (λ vs H Q E h=>?_) (λ a1 A outer s H vs Q E hr h=>?_)
 ·obtain⟨G,L,A,n,rfl,_⟩:=h;rfl
 ·obtain⟨G,L,A,n,rfl,lo,k⟩:=h
  refine⟨_,(aJ (aR (cC ["self","thread"] 1 rfl (cX (K:=K) (aO (K:=K) (pv 0) rfl)) (λ _ _ _ _ _=>⟨(bq (i:=1) (show List.Nodup (["self","thread"]:List Str) from by decide +kernel) rfl (Or.inl rfl)),cP,(aU (pv 1) T.cl_Thread T.me_bq (dq (K:=K) T) (hr.mono (by decide)) T.b_bq .nil aK)⟩)))),?_⟩
  have m2:=lo.m2
  have Y:(L.ths.map λ q=>V.ref q.p).length=A.many:=by rw[BB,lo.c.len1]
  refine⟨_,rfl,L.p,_,L.dx,_,_,rfl,lo.c.self,T.cl_Loom,T.na_bj,rfl,L.lt,rfl,⟨_,SqL.of lo.c.tl⟩,dk (xs:=L.ths.map λ q=>V.ref q.p) (by lia) λ acc j=>⟨λ i F ys H2=>ys=iV ((A.ths.take i).map λ T=>(T.evs.length:Int))/\H2 acc=some (.lst ys)/\aL H H2/\∃ o,F=[some (.ref L.p),o],⟨rfl,aD,aL.new j,_,rfl⟩,?_,?_,?_⟩⟩
  ·rintro i F ys H2 hi ⟨rfl,_,J,_⟩
   refine⟨SqL.of (J _ _ lo.c.tl),?_⟩
   unfold iV
   rw[BB,BB,CB];lia
  ·rintro i v F ys H2 hi M ⟨rfl,O,J,o,rfl⟩
   obtain⟨q,hq,rfl⟩:∃ q,L.ths[i]? = some q/\v=.ref q.p:=by
    rw[BC] at M
    cases e:L.ths[i]? with
    | none=>rw[e] at M;cases M
    | some q=>rw[e] at M;cases M;exact⟨q,rfl,rfl⟩
   obtain⟨U,Z⟩:∃ U,A.ths[i]? = some U:=⟨_,Bz (by rw[lo.c.len2];lia)⟩
   have th:=lo.c.th i q U hq Z
   obtain⟨es,hd,W⟩:=th.done
   dsimp only[cH,gY]
   refine dF ⟨_,rfl,q.p,q.dx,_,rfl,J _ _ th.self,rfl,q.p,q.dx,_,q.ha,q.dn,q.wr,_,es,rfl,J _ _ th.self,SqL.of (J _ _ hd),O,Nx.mk hi ⟨?_,aD,λ b u e=>?_,_,rfl⟩⟩
   ·rw[Dq,Z,W.1]
    unfold iV
    simp
   ·rw[aE (aF e j)];exact J _ _ e
  ·rintro F ys H2 ⟨rfl,O,J,o,rfl⟩
   rw[Dt (by rw[Y,lo.c.len2];exact Nat.le_refl _)] at O
   exact k acc H2 J j O
noncomputable def fN (H:Hp) (v:V):Nm3:=match v with
 | .ref b=>match H b with
  | some (.tup [.int x,.int y,.int z])=>(x,y,z)
  | _=>(0,0,0)
 | _=>(0,0,0)
noncomputable def eF (H:Hp) (v:V) (n:Nm3):Prop:=∃ b,v=.ref b/\H b=some (.tup (nV n))
theorem eF.of (h:eF H v n):fN H v=n:=by
 obtain⟨b,rfl,e⟩:=h
 unfold fN nV at *
 simp only[e]
theorem eF.same (s:aL H H') (h:eF H v n):eF H' v n:=let ⟨b,e,z⟩:=h;⟨b,e,s _ _ z⟩
theorem eF.rp (h:eF H v n):Rp K H v (.tuple [.int n.1,.int n.2.1,.int n.2.2]):=by
 obtain⟨b,rfl,e⟩:=h
 exact oI e
theorem eF.rk (h:eF H v n):rk3 H v=cd3 n:=by
 obtain⟨b,rfl,e⟩:=h
 unfold rk3
 unfold nV at e
 simp only[e]
 rfl
structure NmL (H:Hp) (ls:List V) (ns:List Nm3):Prop where
 eq:ls.map (fN H)=ns
 all:∀ v∈ls,eF H v (fN H v)
theorem NmL.nil:NmL H [] []:=⟨rfl,λ v j=>by cases j⟩
theorem NmL.len (h:NmL H ls ns):ls.length=ns.length:=by rw[<- h.eq,BB]
theorem NmL.same {H H':Hp}{q:List V}{ns:List Nm3}(s:aL H H') (h:NmL H q ns):NmL H' q ns:=by
 have e:∀ v∈q,fN H' v=fN H v:=λ v j=>((h.all v j).same s).of
 exact⟨by rw[<- h.eq];exact Cr e,λ v j=>by rw[e v j];exact(h.all v j).same s⟩
theorem NmL.keep (s:∀ b xs,H b=some (.tup xs)->H' b=some (.tup xs)) (h:NmL H q ns):NmL H' q ns:=by
 have z:∀ v∈q,eF H' v (fN H v):=λ v j=>let ⟨b,e,z⟩:=h.all v j;⟨b,e,s _ _ z⟩
 have e:∀ v∈q,fN H' v=fN H v:=λ v j=>(z v j).of
 exact⟨by rw[<- h.eq];exact Cr e,λ v j=>by rw[e v j];exact z v j⟩
theorem NmL.snoc (h:NmL H ls ns) (i:eF H v n):NmL H (ls++[v]) (ns++[n]):=by
 refine⟨by rw[B7,h.eq,Ed,i.of],λ u j=>?_⟩
 rcases BH.mp j with j|j
 ·exact h.all u j
 ·rw[BD] at j
  rw[j,i.of];exact i
theorem NmL.perm (h:NmL H ls ns) (p:ls'.Perm ls):NmL H ls' (ls'.map (fN H))/\(ls'.map (fN H)).Perm ns:=⟨⟨rfl,λ v j=>h.all v (p.mem_iff.mp j)⟩,by rw[<- h.eq];exact p.map _⟩
theorem NmL.rp:∀ {j:List V}{ns:List Nm3},NmL H j ns->bR K H j (ns.map λ n=>.tuple [.int n.1,.int n.2.1,.int n.2.2])
 | [],_,h=>by
  have:=h.eq
  cases this
  exact .nil
 | v::j,_,h=>by
  have e:=h.eq
  rw[<- e,Ce,Ce]
  exact .cons (h.all v BR).rp (NmL.rp ⟨rfl,λ u q=>h.all u (BQ _ q)⟩)
theorem NmL.small (h:NmL H q ns) (F:∀ n∈ns,Small n):∀ v∈q,Nm H v:=λ v j=>by
 obtain⟨b,e,z⟩:=h.all v j
 have:=F (fN H v) (by rw[<- h.eq];exact BX j)
 exact⟨b,_,_,_,e,z,this⟩
theorem NmL.vm (h:NmL H ls ns):ls.map (rk3 H)=ns.map cd3:=by
 rw[<- h.eq,Cs]
 exact Cr λ v j=>(h.all v j).rk
theorem NmL.sorted (h:NmL H ls ns) (p:ls'.Perm ls) (M:ls'.Pairwise λ u v=>rk3 H u<rk3 H v):∃ j,NmL H ls' j/\j.Perm ns/\ky j:=by
 obtain⟨h1,h2⟩:=h.perm p
 refine⟨_,h1,h2,?_⟩
 unfold ky
 rw[C1]
 refine M.imp_of_mem λ{a b} q F J=>?_
 rw[<- (h1.all a q).rk,<- (h1.all b F).rk];exact J
theorem gR {ns:List Nm3}(j:ns.Nodup) (q:∀ n∈ns,Small n):(ns.map cd3).Nodup:=by
 unfold List.Nodup at j ⊢
 rw[C1]
 exact j.imp_of_mem λ{a b} F J M e=>M (ph (q a F) (q b J) e)
noncomputable def DiA.free (A:DiA):List cQ:=A.po.filter λ l=>decide (l.nm∉A.ta.map (·.1))
theorem Lo.small (lo:Lo K t G H L A n) (q:n<=30):∀ l∈A.A.po,Small l.nm:=λ l j=>by
 obtain⟨F,J,M,O,U,V,_⟩:=lo.wf.rg l j
 have:=kI lo.tw l.nm.1
 exact⟨by lia,by lia,by lia,by lia⟩
theorem qr {ta:List (Nm3×Int)}{n:Nm3}(nt:(ta.map (·.1)).Nodup):(bL (ta.map λ e=>(nk e.1,V.int e.2)) (nk n)).isSome=decide (n∈ta.map (·.1)):=by
 by_cases h:n∈ta.map (·.1)
 ·obtain⟨e,he,rfl⟩:=BV.mp h
  rw[ck (λ e:Nm3×Int=>nk e.1) (λ e=>V.int e.2) (cJ (f:=λ x:Nm3×Int=>x.1) cm nt) he]
  simp[h]
 ·rw[fz (λ e:Nm3×Int=>nk e.1) (λ e=>V.int e.2) λ e he z=>h (by rw[<- cm _ _ z];exact BX he)]
  simp[h]
noncomputable def sP (n:Nat×Nat×Nat):Int:=reduceHash (Builtin.Tuple.tupleHashOf [hashInt (n.1:Int),hashInt (n.2.1:Int),hashInt (n.2.2:Int)])
noncomputable def L3:List (Nat×Nat×Nat):=(List.range 5).flatMap λ h=>(List.range 31).flatMap λ p=>(List.range 3).map λ k=>(h,p,k)
noncomputable def oJ (x:Int):List Int->Bool
 | []=>true
 | y::l=>!(x == y) && oJ x l
noncomputable def kQ:List Int->Bool
 | []=>true
 | x::l=>oJ x l && kQ l
theorem sE:kQ (L3.map sP)=true:=by decide +kernel
theorem lB:∀ {l:List Int},oJ x l=true->x∉l
 | [],_,h=>by cases h
 | y::l,h,m=>by
  unfold oJ at h
  rw[CG] at h
  rcases BF.mp m with e|m
  ·rw[e] at h;simp at h
  ·exact lB h.2 m
theorem js:∀ {l:List Int},kQ l=true->l.Nodup
 | [],_=>.nil
 | x::l,h=>by
  unfold kQ at h
  rw[CG] at h
  exact CC.mpr ⟨lB h.1,js h.2⟩
theorem qN (a:h<5) (b:p<31) (c:k<3):(h,p,k)∈L3:=by
 unfold L3
 exact Dx.mpr ⟨h,Dz.mpr a,Dx.mpr ⟨p,Dz.mpr b,BV.mpr ⟨k,Dz.mpr c,rfl⟩⟩⟩
theorem rF {q U:Type}{f:q->U}{l:List q}(O:(l.map f).Nodup) {a b:q}(F:a∈l) (J:b∈l) (e:f a=f b):a=b:=by
 obtain⟨i,hi,rfl⟩:=B2 F
 obtain⟨j,M,rfl⟩:=B2 J
 have:i=j:=(C2 (l:=l.map f) (by simpa using hi) O).mp (by rw[BC,BC,Bz hi,Bz M];exact congrArg some e)
 subst this;rfl
noncomputable def InR (n:Nm3):Prop:=0<=n.1/\n.1<5/\0<=n.2.1/\n.2.1<31/\0<=n.2.2/\n.2.2<3
theorem wu {w:World}{a b:Nm3}(ha:InR a) (hb:InR b) (e:hT w (nk a)=hT w (nk b)):a=b:=by
 obtain⟨x,y,z⟩:=a
 obtain⟨U,V,W⟩:=b
 obtain⟨j,Y,q,Z,F,a6⟩:=ha
 obtain⟨J,b2,M,b4,O,b6⟩:=hb
 dsimp only at j Y q Z F a6 J b2 M b4 O b6
 obtain⟨x,rfl⟩:=Cd j
 obtain⟨y,rfl⟩:=Cd q
 obtain⟨z,rfl⟩:=Cd F
 obtain⟨U,rfl⟩:=Cd J
 obtain⟨V,rfl⟩:=Cd M
 obtain⟨W,rfl⟩:=Cd O
 have e':sP (x,y,z)=sP (U,V,W):=e
 have:=rF (js sE) (qN (by lia) (by lia) (by lia)) (qN (by lia) (by lia) (by lia)) e'
 cases this
 rfl
theorem fW {w:World}{ns:List Nm3}(j:ns.Nodup) (h:∀ n∈ns,InR n):(ns.map λ n=>hT w (nk n)).Nodup:=by
 unfold List.Nodup at j ⊢
 rw[C1]
 exact j.imp_of_mem λ{a b} q F J e=>J (wu (h a q) (h b F) e)
theorem Lo.inR (lo:Lo K t G H L A n) (q:n<=30):∀ l∈A.A.po,InR l.nm:=λ l j=>by
 obtain⟨F,J,M,O,U,V,_⟩:=lo.wf.rg l j
 have:=kI lo.tw l.nm.1
 have:=lo.m2
 exact⟨by lia,by lia,by lia,by lia,by lia,by lia⟩
noncomputable def yR (K:W.Frag) (t:Adr):Sp:=λ vs H Q _=>∃ G L A n,vs=[.ref L.p]/\Lo K t G H L A n/\n<=30/\∀ l ls ns H',aL H H'->H l=none->H' l=some (.lst ls)->NmL H' ls ns->ky ns->ns.Perm (A.A.free.map (·.nm))->Q (.ref l) H'
theorem qX (T:Txt K mg t):bB P w K mg base (CXr P w) 1 t.f_cn t.fd_cn ["self"] (yR K t):=by
 refine T.F_cn.okN xO (λ vs H Q E h=>?_) (λ cdv A outer s H vs Q E hr h=>?_)
 ·obtain⟨G,L,A,n,rfl,_⟩:=h;rfl
 ·obtain⟨G,L,A,n,rfl,lo,hn,k⟩:=h
  refine⟨_,(aJ (aR (bP (mP (K:=K)) rfl T.no_sorted iA (aI (tN (H₀:=H) (cC ["self","name"] 1 rfl (tX (aO (K:=K) (pv 0) rfl)) (λ _ _ _ _ _=>⟨(bq (i:=1) (show List.Nodup (["self","name"]:List Str) from by decide +kernel) rfl (Or.inl rfl)),(kj (iM (dP (cy hr) (pv 1) (aO (K:=K) (pv 0) rfl)))),(pv 1)⟩))) aG)))),?_⟩
  have bn:=lo.bn
  refine⟨_,rfl,L.p,_,L.dx,_,_,rfl,lo.c.self,T.cl_Loom,T.na_bz,rfl,L.D.po,_,rfl,.inl ⟨lo.c.di.po,λ o=>?_⟩⟩
  obtain⟨x1,x2,x3,x4,x5⟩:=lo.c.di.nes
  have poI:L.D.po∈L.D.own A.A:=by unfold DiL.own;simp
  have pne:L.p≠L.D.po:=λ y=>(lo.c.nd3.2.2.1 L.p (by simp)).2 (by rw[y];exact poI)
  refine pP (by rw[BB];lia) λ acc hacc=>⟨λ i σ2 ys H2=>(∃ ns,NmL H2 ys ns/\ns=((A.A.po.take i).filter λ l=>decide (l.nm∉A.A.ta.map (·.1))).map (·.nm))/\H2 acc=some (.lst ys)/\(∀ b u,b≠L.D.po->H b=some u->H2 b=some u)/\H2 L.D.po=some (.frz o (.dT (A.A.po.map λ l=>(nk l.nm,V.ref l.adr))))/\∃ ov,σ2=[some (.ref L.p),ov],?_,?_,?_,?_⟩
  ·have na:acc≠L.D.po:=λ y=>by rw[y,aD] at hacc;cases hacc
   refine⟨⟨[],.nil,rfl⟩,aD,λ b u nb e=>?_,by rw[aE (Ne.symm na),aD],_,rfl⟩
   rw[aE (aF (o:=u) (by rw[aE nb];exact e) hacc),aE nb];exact e
  ·rintro i σ2 ys H2 hi ⟨⟨ns,nl,en⟩,e2,kp,hp2,_⟩
   refine⟨hp2,?_⟩
   rw[nl.len,en,BB]
   exact B6 (Dj _ _) (by rw[CB];lia)
  ·rintro i b kk v σ2 ys H2 hi hx hb ⟨⟨ns,nl,en⟩,e2,kp,hp2,ov,rfl⟩
   obtain⟨l,hl,rfl⟩:∃ l,A.A.po[i]? = some l/\kk=nk l.nm:=by
    rw[BC] at hx
    cases e:A.A.po[i]? with
    | none=>rw[e] at hx;cases hx
    | some l=>rw[e] at hx;cases hx;exact⟨l,rfl,rfl⟩
   have isn:eF H2 (.ref b) l.nm:=⟨b,rfl,hb⟩
   refine⟨_,rfl,_,rfl,L.p,_,L.dx,_,_,rfl,kp _ _ pne lo.c.self,T.cl_Loom,T.na_ck,rfl,L.D.ta,_,rfl,.inr ⟨_,nk l.nm,b,.inl (kp _ _ (Ne.symm x1) lo.c.di.ta),rfl,hb,rfl⟩,_,rfl,?_⟩
   rw[qr lo.wf.nt]
   have stepE:((A.A.po.take (i+1)).filter λ l=>decide (l.nm∉A.A.ta.map (·.1))).map (·.nm)=ns++(if l.nm∈A.A.ta.map (·.1) then [] else [l.nm]):=by
    rw[Dq,hl,EO,B7,<- en]
    congr 1
    by_cases z:l.nm∈A.A.ta.map (·.1)
    ·rw[BN z]
     simp[DN,z]
    ·rw[BI z]
     have z':decide (l.nm∉A.A.ta.map (·.1))=true:=by simpa using z
     show List.map _ (List.filter _ [l])=_
     rw[DN,BN z']
     rfl
   by_cases z:l.nm∈A.A.ta.map (·.1)
   ·refine cj (by simpa using z) (Nx.mk hi ⟨⟨ns,nl,by rw[stepE,BN z,Dr]⟩,e2,kp,hp2,_,rfl⟩)
   ·refine f7 (by simpa using z) ⟨_,rfl,e2,Nx.mk hi ⟨⟨ns++[l.nm],?_,by rw[stepE,BI z]⟩,aD,λ c u nc e=>?_,?_,_,rfl⟩⟩
    ·exact(nl.snoc isn).keep λ c xs e=>by rw[aE (λ y=>by rw[y,e2] at e;cases e)];exact e
    ·have na:c≠acc:=λ y=>by
      rw[y] at e nc
      rw[aE nc] at hacc
      rw[e] at hacc;cases hacc
     rw[aE na];exact kp c u nc e
    ·rw[aE (λ y=>by rw[y,e2] at hp2;cases hp2)];exact hp2
  ·rintro σ2 ys H2 ⟨⟨ns,nl,en⟩,e2,kp,hp2,_⟩
   rw[BB,Eu] at en
   have na:acc≠L.D.po:=λ y=>by rw[y,aD] at hacc;cases hacc
   have s3:aL H (upd H2 L.D.po (.dT (A.A.po.map λ l=>(nk l.nm,V.ref l.adr)))):=λ b u e=>by
    by_cases y:b=L.D.po
    ·rw[y,aD]
     rw[y,lo.c.di.po] at e;exact e
    ·rw[aE y];exact kp b u y e
   have nl3:NmL (upd H2 L.D.po (.dT (A.A.po.map λ l=>(nk l.nm,V.ref l.adr)))) ys ns:=nl.keep λ c xs e=>by rw[aE (λ y=>by rw[y,hp2] at e;cases e)];exact e
   have sub:∀ n∈ns,Small n:=λ n hn'=>by
    rw[en] at hn'
    obtain⟨l,hl,rfl⟩:=BV.mp hn'
    exact lo.small hn l (Cy.mp hl).1
   have ndn:ns.Nodup:=by
    rw[en]
    exact lo.wf.nd.sublist ((List.filter_sublist).map _)
   refine⟨L.D.po,o,_,hp2,(λ o' v' y=>by rw[lo.c.di.po] at y;cases y),acc,ys,rfl,SqL.of (by rw[aE na];exact e2),?_,nl3.small sub,by rw[nl3.vm];exact gR ndn sub,λ l ls' hl p so=>?_⟩
   ·rw[nl.len,en,BB]
    have:=Dj (λ l:cQ=>decide (l.nm∉A.A.ta.map (·.1))) A.A.po
    lia
   ·obtain⟨ns',n1,n2,n3⟩:=nl3.sorted p so
    have sl:=aL.new (o:=.lst ls') hl
    exact k l ls' ns' _ (s3.trans sl) (s3.free hl) aD (n1.same sl) n3 (by rw[en] at n2;exact n2)
noncomputable def Af (K:W.Frag) (t:Adr):Sp:=λ vs H Q _=>∃ G L A n,vs=[.ref L.p]/\Lo K t G H L A n/\n<=30/\∀ l H',aL H H'->H l=none->H' l=some (.dT (A.A.po.map λ l=>(nk l.nm,V.ref l.adr)))->Q (.ref l) H'
theorem uQ (T:Txt K mg t):bB P w K mg base (CXr P w) 1 t.f_ag t.fd_ag ["self"] (Af K t):=by
 refine T.F_ag.okN zu (λ vs H Q E h=>?_) (λ F A outer s H vs Q E M h=>?_)
 ·obtain⟨G,L,A,n,rfl,_⟩:=h;rfl
 ·obtain⟨G,L,A,n,rfl,lo,J,k⟩:=h
  refine⟨_,(aJ (aR (bX iJ rfl T.no_dict rZ (aI (aO (K:=K) (pv 0) rfl) aG)))),?_⟩
  refine⟨_,rfl,L.p,_,L.dx,_,_,rfl,lo.c.self,T.cl_Loom,T.na_bz,rfl,L.D.po,_,rfl,.inl lo.c.di.po,?_,λ l j=>k l _ (aL.new j) j aD⟩
  rw[Cs]
  have:=fW (w:=w) lo.wf.nd λ n q=>by
   obtain⟨l,j,rfl⟩:=BV.mp q
   exact lo.inR J l j
  rw[Cs] at this
  exact this
noncomputable def Ad (K:W.Frag) (t:Adr):Sp:=λ vs H Q _=>∃ G L A n,vs=[.ref L.p]/\Lo K t G H L A n/\n<=30/\∀ l H',aL H H'->H l=none->H' l=some (.dT (A.A.ta.map λ e=>(nk e.1,V.int e.2)))->Q (.ref l) H'
theorem uR (T:Txt K mg t):bB P w K mg base (CXr P w) 1 t.f_ah t.fd_ah ["self"] (Ad K t):=by
 refine T.F_ah.okN Ag (λ vs H Q E h=>?_) (λ F A outer s H vs Q E O h=>?_)
 ·obtain⟨G,L,A,n,rfl,_⟩:=h;rfl
 ·obtain⟨G,L,A,n,rfl,lo,M,k⟩:=h
  refine⟨_,(aJ (aR (bX iJ rfl T.no_dict rZ (aI (aO (K:=K) (pv 0) rfl) aG)))),?_⟩
  refine⟨_,rfl,L.p,_,L.dx,_,_,rfl,lo.c.self,T.cl_Loom,T.na_ck,rfl,L.D.ta,_,rfl,.inl lo.c.di.ta,?_,λ l j=>k l _ (aL.new j) j aD⟩
  rw[Cs]
  have:=fW (w:=w) lo.wf.nt λ n q=>by
   obtain⟨e,J,rfl⟩:=BV.mp q
   obtain⟨l,j,z,_⟩:=lo.wf.tp e J
   rw[<- z];exact lo.inR M l j
  rw[Cs] at this
  exact this
theorem kF (q:H p=some z) (j:H l=none):(∀ c u,c≠p->H c=some u->upd (upd H l o) p o' c=some u)/\upd (upd H l o) p o' l=some o/\l≠p:=by
 have n:l≠p:=λ e=>by rw[e,q] at j;cases j
 exact⟨λ c u F e=>by rw[aE F,aE (aF e j)];exact e,by rw[aE n,aD],n⟩
noncomputable def pE (m:Nat) (o:Bool) (cell:Int) (hbs:List fE):LoA:=⟨m,o,cell,hbs.map λ h=>⟨0,h,[],[0],0⟩,⟨[],[],[]⟩⟩
noncomputable def xW (K:W.Frag) (t:Adr):Sp:=λ vs H Q _=>∃ (G:Hp) (p dx dz a b:Addr) (m:Nat) (has:List Addr) (hbs:List fE) (o:Bool) (cell:Int),vs=[.ref p,.ref dz,.ref a,.ref b,.bl o]/\H p=some (.ins t.c_Loom dx [])/\aL G H/\G p=none/\SqL K H a (List.replicate m (.int 0))/\SqL K H b (has.map V.ref)/\has.length=m/\hbs.length=m /\
 (∀ (i:Nat) ha hb,has[i]? = some ha->hbs[i]? = some hb->jg t G ha hb)/\kr G "_law_loom.<locals>.<lambda>" qo ["_law_cell","_law_many"] dz [.int cell,.int m]/\2<=m/\m<=5 /\
 ∀ (H':Hp) (L:LoL),L.p=p->(∀ c∈L.own (pE m o cell hbs),c=p\/H c=none)->(∀ c u,c≠p->H c=some u->H' c=some u)->Lo K t G H' L (pE m o cell hbs) 0->Q .non H'
theorem yg (T:Txt K mg t):bB P w K mg base (CXr P w) 3 t.f_co t.fd_co ["self","does","starts","habits","ordered"] (xW K t):=by
 refine T.F_co.okN A5 (λ vs H Q E h=>?_) (λ cdv A outer s H vs Q E hr h=>?_)
 ·obtain⟨G,p,dx,dz,a,b,m,has,hbs,o,cell,rfl,_⟩:=h;rfl
 ·obtain⟨G,p,dx,dz,a,b,m,has,hbs,o,cell,rfl,hp,sG,gp,ha,hb,l1,l2,hab,clo,m0,m1,k⟩:=h
  refine⟨_,(aH (bH (K:=K) (pv 0) (pv 1) rfl)
   (aH (bH (K:=K) (pv 0) (bP (dH (K:=K)) rfl T.no_len lA (aI (pv 2) aG)) rfl)
   (aH (bH (K:=K) (pv 0) (pv 4) rfl)
   (aH (bH (K:=K) (pv 0) (cC ["self","does","starts","habits","ordered","start","habit"] 2 rfl (wx (K:=K) rfl T.no_zip (aI (pv 2) (aI (pv 3) aG))) (λ _ _ _ _ _=>⟨(ig (K:=K) (n:=2) rfl (cW (bq (i:=5) (show List.Nodup (["self","does","starts","habits","ordered","start","habit"]:List Str) from by decide +kernel) rfl (Or.inl rfl)) (cW (bq (i:=6) (show List.Nodup (["self","does","starts","habits","ordered","start","habit"]:List Str) from by decide +kernel) rfl (Or.inl rfl)) hU))),cP,(fm T.mk_Thread (zf (K:=K) T) (hr.mono (by decide)) rfl T.mg_Thread T.b_bp .nil aK (aI (pv 5) (aI (pv 6) aG)))⟩)) rfl)
   (aH (bH (K:=K) (pv 0) (cG aG) rfl)
   (aH (bH (K:=K) (pv 0) eH rfl)
   (aH (bH (K:=K) (pv 0) eH rfl)
   (aJ (bH (K:=K) (pv 0) eH rfl))))))))),?_⟩
  refine⟨_,rfl,_,rfl,p,_,dx,_,rfl,hp,T.cl_Loom,T.na_cr,by decide,?_⟩
  refine⟨_,rfl,a,_,rfl,.inl (fh hp ha),_,rfl,p,_,dx,_,rfl,aD,T.cl_Loom,T.na_cs,by show 1<1000;decide,?_⟩
  rw[f9,CK]
  refine⟨_,rfl,_,rfl,p,_,dx,_,rfl,aD,T.cl_Loom,T.na_bi,by show 2<1000;decide,?_⟩
  rw[f9]
  have hp3:upd H p (HO.ins t.c_Loom dx (aP "ordered" (.bl o) (aP "many" (.int m) (aP "does" (.ref dz) [])))) p=some (HO.ins t.c_Loom dx (aP "ordered" (.bl o) (aP "many" (.int m) (aP "does" (.ref dz) [])))):=aD
  have ha3:=fh (fs':=aP "ordered" (.bl o) (aP "many" (.int m) (aP "does" (.ref dz) []))) hp ha
  have hb3:=fh (fs':=aP "ordered" (.bl o) (aP "many" (.int m) (aP "does" (.ref dz) []))) hp hb
  have k3:∀ c u,c≠p->H c=some u->upd H p (HO.ins t.c_Loom dx (aP "ordered" (.bl o) (aP "many" (.int m) (aP "does" (.ref dz) [])))) c=some u:=λ c u nc e=>by rw[aE nc];exact e
  have f3:∀ c,upd H p (HO.ins t.c_Loom dx (aP "ordered" (.bl o) (aP "many" (.int m) (aP "does" (.ref dz) [])))) c=none->H c=none:=λ c e=>by
   by_cases y:c=p
   ·rw[y,aD] at e;cases e
   ·rw[aE y] at e;exact e
  generalize upd H p (HO.ins t.c_Loom dx (aP "ordered" (.bl o) (aP "many" (.int m) (aP "does" (.ref dz) []))))=H3 at hp3 ha3 hb3 k3 f3 ⊢
  refine⟨_,rfl,_,rfl,a,b,_,_,rfl,ha3,hb3,qU (xs:=List.replicate m (.int 0)) (ys:=has.map V.ref) (by rw[CK];lia) (by rw[CK,BB,l1]) λ acc hacc=>⟨λ i σ2 zs H2=>(∃ Ls:List ThL,Ls.length=i/\zs=Ls.map (λ q=>V.ref q.p)/\H2 acc=some (.lst zs)/\aL H3 H2/\(∀ (j:Nat) q,Ls[j]? = some q->H2 q.p=some (.ins t.c_Thread q.dx (thF 0 q.ha q.dn q.wr 0))/\H2 q.dn=some (.lst [])/\H2 q.wr=some (.lst [.int 0])/\has[j]? = some q.ha)/\(bV Ls).Nodup/\∀ c∈bV Ls,H3 c=none/\c≠acc)/\∃ o1 o2,σ2=[some (.ref p),some (.ref dz),some (.ref a),some (.ref b),some (.bl o),o1,o2],?_,?_,?_,?_⟩⟩
  ·exact⟨⟨[],rfl,rfl,aD,aL.new hacc,(λ j q e=>by simp at e),by unfold bV;simp,(λ c hc=>by unfold bV at hc;simp at hc)⟩,_,_,rfl⟩
  ·rintro i σ2 zs H2 hi ⟨⟨Ls,len,rfl,_,s2,_⟩,_⟩
   exact⟨s2.seq ha3,s2.seq hb3,by rw[BB];lia⟩
  ·rintro i x y pz σ2 zs H2 hi hx hy npz ⟨⟨Ls,len,rfl,e2,s2,hth,nd,fr⟩,o1,o2,rfl⟩
   rw[CK] at hi
   obtain rfl:x=.int 0:=by
    rw[Eh,BN hi] at hx
    exact(Option.some.inj hx).symm
   obtain⟨hx',hax,rfl⟩:∃ h',has[i]? = some h'/\y=.ref h':=by
    rw[BC] at hy
    cases e:has[i]? with
    | none=>rw[e] at hy;cases hy
    | some h'=>rw[e] at hy;cases hy;exact⟨h',rfl,rfl⟩
   refine⟨pz,_,rfl,SqT.of aD,rfl,_,_,rfl,_,_,rfl,rfl,?_⟩
   dsimp only[gY]
   refine dF ⟨_,rfl,_,rfl,λ x dxx nx ndx ndd=>⟨x,dxx,0,hx',rfl,aD,λ dn wr H5 hdn hwr ndw hH5=>⟨rfl,?_⟩⟩⟩
   have sz:aL H2 (upd H2 pz (.tup [.int 0,.ref hx'])):=aL.new npz
   have si:aL (upd H2 pz (.tup [.int 0,.ref hx'])) (upd (upd (upd H2 pz (.tup [.int 0,.ref hx'])) dxx (.own x)) x (.ins t.c_Thread dxx [])):=aL.ins nx ndx
   have x0:H2 x=none:=sz.free nx
   have dn0:H2 dn=none:=sz.free (si.free hdn)
   have wr0:H2 wr=none:=sz.free (si.free hwr)
   have ndx':dn≠x:=λ e=>by rw[e,aD] at hdn;cases hdn
   have nwx':wr≠x:=λ e=>by rw[e,aD] at hwr;cases hwr
   have s5:aL H2 H5:=λ c u e=>by
    rw[hH5 c,BI (aF e x0),BI (aF e dn0),BI (aF e wr0)]
    exact si _ _ (sz _ _ e)
   have old:∀ c∈bV Ls,H2 c≠none:=λ c hc=>by
    obtain⟨q,hq,hc⟩:=Dx.mp hc
    obtain⟨j,hj,rfl⟩:=B2 hq
    obtain⟨t1,t2,t3,_⟩:=hth j _ (Bz hj)
    simp only[BF,BM,Ca] at hc
    rcases hc with rfl|rfl|rfl
    ·rw[t1];simp
    ·rw[t2];simp
    ·rw[t3];simp
   have nacc:∀ c,H2 c=none->c≠acc:=λ c e y=>by rw[y,e2] at e;cases e
   have ow:bV (Ls++[⟨x,dxx,hx',dn,wr⟩])=bV Ls++[x,dn,wr]:=by
    unfold bV
    rw[List.flatMap_append];rfl
   have newF:∀ c∈[x,dn,wr],H2 c=none:=λ c hc=>by
    simp only[BF,BM,Ca] at hc
    rcases hc with rfl|rfl|rfl
    ·exact x0
    ·exact dn0
    ·exact wr0
   refine⟨s5 _ _ e2,Nx.mk (by rw[CK];exact hi) ⟨⟨Ls++[⟨x,dxx,hx',dn,wr⟩],by rw[BL,len];rfl,by rw[B7];rfl,aD,λ c u e=>?_,λ j q hq=>?_,?_,λ c hc=>?_⟩,_,_,rfl⟩⟩
   ·rw[aE (aF e hacc)];exact s5 _ _ (s2 _ _ e)
   ·by_cases hj:j<Ls.length
    ·rw[Cn hj] at hq
     obtain⟨t1,t2,t3,t4⟩:=hth j q hq
     have na:=λ c hc=>(fr c (bI hq c hc)).2
     exact⟨by rw[aE (na _ (by simp))];exact s5 _ _ t1,by rw[aE (na _ (by simp))];exact s5 _ _ t2,by rw[aE (na _ (by simp))];exact s5 _ _ t3,t4⟩
    ·rw[B5 (by lia)] at hq
     have ej:j=i:=by
      have:=(BE.mp hq).1
      rw[B3] at this
      lia
     subst ej
     rw[len,CV] at hq
     cases hq
     refine⟨?_,?_,?_,hax⟩
     ·rw[aE (nacc _ x0),hH5,BN rfl]
     ·rw[aE (nacc _ dn0),hH5,BI ndx',BN rfl]
     ·rw[aE (nacc _ wr0),hH5,BI nwx',BI (Ne.symm ndw),BN rfl]
   ·rw[ow]
    refine Cq.mpr ⟨nd,?_,λ c hc d hd e=>old c hc (by rw[e];exact newF d hd)⟩
    simp only[CC,BF,BM,Ca,DW,ET,El,and_true]
    exact⟨⟨Ne.symm ndx',Ne.symm nwx'⟩,ndw⟩
   ·rw[ow] at hc
    rcases BH.mp hc with hc|hc
    ·exact fr c hc
    ·exact⟨s2.free (newF c hc),nacc c (newF c hc)⟩
  ·rintro σ2 zs H2 ⟨⟨Ls,len,rfl,e2,s2,hth,nd,fr⟩,_⟩
   rw[CK] at len
   have hp4:=s2 _ _ hp3
   refine⟨_,rfl,p,_,dx,_,rfl,hp4,T.cl_Loom,T.na_bj,by show 3<1000;decide,?_⟩
   have hp4':upd H2 p (.ins t.c_Loom dx (aP "threads" (.ref acc) (aP "ordered" (.bl o) (aP "many" (.int m) (aP "does" (.ref dz) []))))) p=some (.ins t.c_Loom dx (aP "threads" (.ref acc) (aP "ordered" (.bl o) (aP "many" (.int m) (aP "does" (.ref dz) []))))):=aD
   have k4:∀ c u,c≠p->H2 c=some u->upd H2 p (.ins t.c_Loom dx (aP "threads" (.ref acc) (aP "ordered" (.bl o) (aP "many" (.int m) (aP "does" (.ref dz) []))))) c=some u:=λ c u nc e=>by rw[aE nc];exact e
   generalize upd H2 p (.ins t.c_Loom dx (aP "threads" (.ref acc) (aP "ordered" (.bl o) (aP "many" (.int m) (aP "does" (.ref dz) [])))))=H4 at hp4' k4 ⊢
   refine⟨by decide,λ lg hlg=>⟨_,rfl,p,_,dx,_,rfl,by rw[aE (aF hp4' hlg)];exact hp4',T.cl_Loom,T.na_cy,by show 4<1000;decide,?_⟩⟩
   obtain⟨k5,e5,ne5⟩:=kF (o:=.lst []) (o':=.ins t.c_Loom dx (aP "log" (.ref lg) (aP "threads" (.ref acc) (aP "ordered" (.bl o) (aP "many" (.int m) (aP "does" (.ref dz) [])))))) hp4' hlg
   have hp5:upd (upd H4 lg (.lst [])) p (.ins t.c_Loom dx (aP "log" (.ref lg) (aP "threads" (.ref acc) (aP "ordered" (.bl o) (aP "many" (.int m) (aP "does" (.ref dz) [])))))) p=some _:=aD
   generalize upd (upd H4 lg (.lst [])) p (.ins t.c_Loom dx (aP "log" (.ref lg) (aP "threads" (.ref acc) (aP "ordered" (.bl o) (aP "many" (.int m) (aP "does" (.ref dz) []))))))=H5 at k5 e5 hp5 ⊢
   refine λ po hpo=>⟨_,rfl,p,_,dx,_,rfl,by rw[aE (aF hp5 hpo)];exact hp5,T.cl_Loom,T.na_bz,by show 5<1000;decide,?_⟩
   obtain⟨k6,e6,ne6⟩:=kF (o:=.dT []) (o':=.ins t.c_Loom dx (aP "posted" (.ref po) (aP "log" (.ref lg) (aP "threads" (.ref acc) (aP "ordered" (.bl o) (aP "many" (.int m) (aP "does" (.ref dz) []))))))) hp5 hpo
   have hp6:upd (upd H5 po (.dT [])) p (.ins t.c_Loom dx (aP "posted" (.ref po) (aP "log" (.ref lg) (aP "threads" (.ref acc) (aP "ordered" (.bl o) (aP "many" (.int m) (aP "does" (.ref dz) []))))))) p=some _:=aD
   generalize upd (upd H5 po (.dT [])) p (.ins t.c_Loom dx (aP "posted" (.ref po) (aP "log" (.ref lg) (aP "threads" (.ref acc) (aP "ordered" (.bl o) (aP "many" (.int m) (aP "does" (.ref dz) [])))))))=H6 at k6 e6 hp6 ⊢
   refine λ ta hta=>⟨_,rfl,p,_,dx,_,rfl,by rw[aE (aF hp6 hta)];exact hp6,T.cl_Loom,T.na_ck,by show 6<1000;decide,?_⟩
   obtain⟨k7,e7,ne7⟩:=kF (o:=.dT []) (o':=.ins t.c_Loom dx (aP "taken" (.ref ta) (aP "posted" (.ref po) (aP "log" (.ref lg) (aP "threads" (.ref acc) (aP "ordered" (.bl o) (aP "many" (.int m) (aP "does" (.ref dz) [])))))))) hp6 hta
   have hp7:upd (upd H6 ta (.dT [])) p (.ins t.c_Loom dx (aP "taken" (.ref ta) (aP "posted" (.ref po) (aP "log" (.ref lg) (aP "threads" (.ref acc) (aP "ordered" (.bl o) (aP "many" (.int m) (aP "does" (.ref dz) [])))))))) p=some _:=aD
   generalize upd (upd H6 ta (.dT [])) p (.ins t.c_Loom dx (aP "taken" (.ref ta) (aP "posted" (.ref po) (aP "log" (.ref lg) (aP "threads" (.ref acc) (aP "ordered" (.bl o) (aP "many" (.int m) (aP "does" (.ref dz) []))))))))=H7 at k7 e7 hp7 ⊢
   refine λ wy hwy=>⟨_,rfl,p,_,dx,_,rfl,by rw[aE (aF hp7 hwy)];exact hp7,T.cl_Loom,T.na_ct,by show 7<1000;decide,?_⟩
   obtain⟨k8,e8,ne8⟩:=kF (o:=.dT []) (o':=.ins t.c_Loom dx (aP "ways" (.ref wy) (aP "taken" (.ref ta) (aP "posted" (.ref po) (aP "log" (.ref lg) (aP "threads" (.ref acc) (aP "ordered" (.bl o) (aP "many" (.int m) (aP "does" (.ref dz) []))))))))) hp7 hwy
   have hp8:upd (upd H7 wy (.dT [])) p (.ins t.c_Loom dx (aP "ways" (.ref wy) (aP "taken" (.ref ta) (aP "posted" (.ref po) (aP "log" (.ref lg) (aP "threads" (.ref acc) (aP "ordered" (.bl o) (aP "many" (.int m) (aP "does" (.ref dz) []))))))))) p=some (.ins t.c_Loom dx (loF dz m o acc lg ⟨po,ta,wy⟩)):=aD
   generalize upd (upd H7 wy (.dT [])) p (.ins t.c_Loom dx (aP "ways" (.ref wy) (aP "taken" (.ref ta) (aP "posted" (.ref po) (aP "log" (.ref lg) (aP "threads" (.ref acc) (aP "ordered" (.bl o) (aP "many" (.int m) (aP "does" (.ref dz) [])))))))))=H8 at k8 e8 hp8 ⊢
   have u78:=k8
   have u68:∀ c u,c≠p->H6 c=some u->H8 c=some u:=λ c u n e=>k8 c u n (k7 c u n e)
   have u58:∀ c u,c≠p->H5 c=some u->H8 c=some u:=λ c u n e=>u68 c u n (k6 c u n e)
   have u48:∀ c u,c≠p->H4 c=some u->H8 c=some u:=λ c u n e=>u58 c u n (k5 c u n e)
   have u28:∀ c u,c≠p->H2 c=some u->H8 c=some u:=λ c u n e=>u48 c u n (k4 c u n e)
   have uH8:∀ c u,c≠p->H c=some u->H8 c=some u:=λ c u n e=>u28 c u n (s2 _ _ (k3 c u n e))
   have none2:∀ c,c≠p->(H4 c=none\/H5 c=none\/H6 c=none\/H7 c=none)->H2 c=none:=λ c n z=>by
    cases e:H2 c with
    | none=>rfl
    | some u=>
     have z4:=k4 c u n e
     have z5:=k5 c u n z4
     have z6:=k6 c u n z5
     have z7:=k7 c u n z6
     rcases z with z|z|z|z
     ·rw[z4] at z;cases z
     ·rw[z5] at z;cases z
     ·rw[z6] at z;cases z
     ·rw[z7] at z;cases z
   have lg2:=none2 lg ne5 (.inl hlg)
   have po2:=none2 po ne6 (.inr (.inl hpo))
   have ta2:=none2 ta ne7 (.inr (.inr (.inl hta)))
   have wy2:=none2 wy ne8 (.inr (.inr (.inr hwy)))
   have toH:∀ c,H2 c=none->H c=none:=λ c e=>f3 c (s2.free e)
   have accP:acc≠p:=λ y=>by rw[y,hp3] at hacc;cases hacc
   have thP:∀ c∈bV Ls,c≠p:=λ c hc y=>by
    have:=(fr c hc).1
    rw[y,hp3] at this;cases this
   have th2:∀ c∈bV Ls,H2 c≠none:=λ c hc=>by
    obtain⟨q,hq,hc⟩:=Dx.mp hc
    obtain⟨j,hj,rfl⟩:=B2 hq
    obtain⟨t1,t2,t3,_⟩:=hth j _ (Bz hj)
    simp only[BF,BM,Ca] at hc
    rcases hc with rfl|rfl|rfl
    ·rw[t1];simp
    ·rw[t2];simp
    ·rw[t3];simp
   have acc2:H2 acc≠none:=by rw[e2];simp
   have lp:lg≠po:=λ y=>by rw[y] at e5;rw[hpo] at e5;cases e5
   have lt:lg≠ta:=λ y=>by have:=k6 _ _ ne5 e5;rw[y,hta] at this;cases this
   have lw:lg≠wy:=λ y=>by have:=k7 _ _ ne5 (k6 _ _ ne5 e5);rw[y,hwy] at this;cases this
   have pt:po≠ta:=λ y=>by rw[y] at e6;rw[hta] at e6;cases e6
   have pw:po≠wy:=λ y=>by have:=k7 _ _ ne6 e6;rw[y,hwy] at this;cases this
   have tw':ta≠wy:=λ y=>by rw[y] at e7;rw[hwy] at e7;cases e7
   have nn2:∀ c,H2 c≠none->c≠lg/\c≠po/\c≠ta/\c≠wy:=λ c e=>⟨λ y=>e (by rw[y];exact lg2),λ y=>e (by rw[y];exact po2),λ y=>e (by rw[y];exact ta2),λ y=>e (by rw[y];exact wy2)⟩
   have ownI:∀ c∈LoL.own ⟨p,dx,dz,acc,lg,⟨po,ta,wy⟩,Ls,hbs⟩ (pE m o cell hbs),c=p\/H c=none:=λ c hc=>by
    rcases BH.mp hc with hc|hc
    ·simp only[BF,BM,Ca] at hc
     rcases hc with h|h|h
     ·exact .inl h
     ·rw[h];exact .inr (f3 _ hacc)
     ·rw[h];exact .inr (toH _ lg2)
    ·rcases BH.mp hc with hc|hc
     ·exact .inr (f3 _ (fr c hc).1)
     ·have hc':c∈[po,ta,wy]++([]:List Addr):=hc
      simp only[Dr,BF,BM,Ca] at hc'
      rcases hc' with h|h|h
      ·rw[h];exact .inr (toH _ po2)
      ·rw[h];exact .inr (toH _ ta2)
      ·rw[h];exact .inr (toH _ wy2)
   have gnI:∀ c∈LoL.own ⟨p,dx,dz,acc,lg,⟨po,ta,wy⟩,Ls,hbs⟩ (pE m o cell hbs),G c=none:=λ c hc=>by
    rcases ownI c hc with h|h
    ·rw[h];exact gp
    ·exact sG.free h
   have held:aL G H8:=λ c u e=>uH8 c u (aF e gp) (sG _ _ e)
   have poO:∀ c∈[po,ta,wy],c∈LoL.own ⟨p,dx,dz,acc,lg,⟨po,ta,wy⟩,Ls,hbs⟩ (pE m o cell hbs):=λ c hc=>BG _ (BG _ (BS _ hc))
   refine k H8 ⟨p,dx,dz,acc,lg,⟨po,ta,wy⟩,Ls,hbs⟩ rfl ownI uH8 ⟨⟨hp8,u28 _ _ accP e2,λ i q T hq hT=>?_,len,by show (hbs.map _).length=m;rw[BB,l2],⟨[],u58 _ _ ne5 e5⟩,⟨u68 _ _ ne6 e6,u78 _ _ ne7 e7,e8,(λ e he=>by cases he),(λ l hl=>by cases hl),held,?_,λ c hc=>gnI c (BG _ (BG _ hc))⟩,clo,held,gnI,?_⟩,⟨.nil,.nil,(λ e he=>by cases he),(λ l hl=>by cases hl),.nil,(λ e he=>by cases he),(λ e he=>by cases he),(λ l hl=>by cases hl),(λ e he=>by cases he)⟩,⟨[],u58 _ _ ne5 e5,Nat.le_refl _⟩,λ T hT=>?_,⟨Nat.le_refl _,Nat.le_refl _⟩,⟨m0,m1⟩,(λ ys hy x hx=>by rw[show H8 lg=_ from u58 _ _ ne5 e5] at hy;cases hy;cases hx),(by show (hbs.map _).map _=hbs;rw[Cs];exact FO _)⟩
   ·obtain⟨t1,t2,t3,t4⟩:=hth i q hq
    have hT':(hbs.map λ h=>(⟨0,h,[],[0],0⟩:ThA))[i]? = some T:=hT
    rw[BC] at hT'
    cases hb':hbs[i]? with
    | none=>rw[hb'] at hT';cases hT'
    | some h=>
     rw[hb'] at hT'
     cases hT'
     have inn:=bI hq
     have ndq:=su nd hq
     simp only[CC,BF,BM,Ca,DW] at ndq
     have gth:∀ c∈[q.p,q.dn,q.wr],G c=none:=λ c hc=>gnI c (BG _ (BS _ (inn c hc)))
     exact⟨u28 _ _ (thP _ (inn _ (by simp))) t1,hab i q.ha h t4 hb',⟨[],u28 _ _ (thP _ (inn _ (by simp))) t2,rfl,(λ j e A he=>by simp at he)⟩,u28 _ _ (thP _ (inn _ (by simp))) t3,held,gth _ (by simp),gth _ (by simp),gth _ (by simp),ndq.2.1⟩
   ·show ([po,ta,wy]++([]:List Addr)).Nodup
    simp only[Dr,CC,BF,BM,Ca,DW,ET,El,and_true]
    exact⟨⟨pt,pw⟩,tw'⟩
   ·show ([p,acc,lg]++(bV Ls++([po,ta,wy]++([]:List Addr)))).Nodup
    rw[Dr]
    have a2:=nn2 acc acc2
    refine Cq.mpr ⟨?_,Cq.mpr ⟨nd,?_,λ c hc d hd y=>?_⟩,λ c hc d hd y=>?_⟩
    ·simp only[CC,BF,BM,Ca,DW,ET,El,and_true]
     exact⟨⟨Ne.symm accP,Ne.symm ne5⟩,a2.1⟩
    ·simp only[CC,BF,BM,Ca,DW,ET,El,and_true]
     exact⟨⟨pt,pw⟩,tw'⟩
    ·obtain⟨b1,b2,b3,b4⟩:=nn2 c (th2 c hc)
     simp only[BF,BM,Ca] at hd
     rcases hd with h|h|h
     ·exact b2 (y.trans h)
     ·exact b3 (y.trans h)
     ·exact b4 (y.trans h)
    ·simp only[BF,BM,Ca] at hc
     rcases BH.mp hd with hd|hd
     ·rcases hc with h|h|h
      ·exact thP d hd (y.symm.trans h)
      ·exact(fr d hd).2 (y.symm.trans h)
      ·exact(nn2 d (th2 d hd)).1 (y.symm.trans h)
     ·simp only[BF,BM,Ca] at hd
      subst y
      rcases hc with rfl|rfl|rfl<;>rcases hd with h|h|h
      ·exact ne6 h.symm
      ·exact ne7 h.symm
      ·exact ne8 h.symm
      ·exact a2.2.1 h
      ·exact a2.2.2.1 h
      ·exact a2.2.2.2 h
      ·exact lp h
      ·exact lt h
      ·exact lw h
   ·obtain⟨h,_,rfl⟩:=BV.mp (show T∈hbs.map _ from hT)
    refine⟨⟨0,[],rfl⟩,λ z hz=>?_,CS _,Nat.le_refl _,Nat.le_refl _,rfl,CS _,λ _=>rfl⟩
    rw[BD] at hz
    rw[hz];exact⟨CS _,CS _⟩
noncomputable def bW (ln:List Int) (h:Int):Int:=(ln[h.toNat]?).getD 0
theorem km (h0:0<=h) (h1:h<ln.length):atI (iV ln) h=some (.int (bW ln h)):=by
 obtain⟨i,rfl⟩:=Cd h0
 have hi:i<ln.length:=by lia
 have e:(iV ln)[i]? = some (.int (bW ln i)):=by
  unfold iV bW
  rw[BC,Cg,Bz hi];rfl
 exact cM e
noncomputable def yL (K:W.Frag):Sp:=λ vs H Q _=>∃ a b ln n,vs=[.ref a,.ref b]/\SqL K H a (iV ln)/\H b=some (.tup (nV n))/\0<=n.1/\n.1<ln.length/\Q (.bl (decide (n.2.1<=bW ln n.1))) H
theorem vk (T:Txt K mg t):bB P w K mg base (CXr P w) 1 t.f_ar t.fd_ar ["line","name"] (yL K):=by
 refine T.F_ar.okN xg (λ vs H Q E h=>?_) (λ q A outer s H vs Q E M h=>?_)
 ·obtain⟨a,b,J,n,rfl,_⟩:=h;rfl
 ·obtain⟨a,b,J,n,rfl,F,j,h0,h1,k⟩:=h
  refine⟨_,(aJ (aR (cU qO (bb (bz (K:=K)) (pv 1) aN (λ _ _=>rfl)) (bb (aZ (K:=K)) (pv 0) (bb (bz (K:=K)) (pv 1) aN (λ _ _=>rfl)) (λ _ _=>rfl)) (bD _)))),?_⟩
  exact⟨_,rfl,b,nV n,1,.int n.2.1,rfl,rfl,SqT.of j,rfl,_,rfl,_,rfl,b,nV n,0,.int n.1,rfl,rfl,SqT.of j,rfl,a,_,n.1,_,rfl,rfl,F,km h0 h1,_,_,rfl,rfl,k⟩
noncomputable def zG (K:W.Frag):Sp:=λ vs H Q _=>∃ a ln u pl,vs=[.ref a,.int u,.int pl]/\SqL K H a (iV ln)/\0<=u/\u<ln.length/\Q (.bl (decide (pl<=bW ln u))) H
theorem zW (T:Txt K mg t):bB P w K mg base (CXr P w) 1 t.f_as t.fd_as ["line","user","place"] (zG K):=by
 refine T.F_as.okN xl (λ vs H Q E h=>?_) (λ j A outer s H vs Q E M h=>?_)
 ·obtain⟨a,F,u,J,rfl,_⟩:=h;rfl
 ·obtain⟨a,F,u,J,rfl,q,h0,h1,k⟩:=h
  refine⟨_,(aJ (aR (cU qO (pv 2) (bb (aZ (K:=K)) (pv 0) (pv 1) (λ _ _=>rfl)) (bD _)))),?_⟩
  exact⟨_,rfl,_,rfl,_,rfl,a,_,u,_,rfl,rfl,q,km h0 h1,_,_,rfl,rfl,k⟩
noncomputable def DiA.eM (A:DiA) (n:Nm3):Int:=((A.po.find? λ l=>decide (l.nm=n)).map (·.to)).getD 0
theorem gx {A:DiA}(F:(A.po.map (·.nm)).Nodup) {l:cQ}(j:l∈A.po):A.eM l.nm=l.to:=by
 unfold DiA.eM
 cases e:A.po.find? λ q=>decide (q.nm=l.nm) with
 | none=>
  have:=List.find?_eq_none.mp e l j
  simp at this
 | some q=>
  have h1:=List.mem_of_find?_eq_some e
  have h2:=List.find?_some e
  rw[gC F h1 j (CN h2)];rfl
noncomputable def DiA.eE (A:DiA) (ln:List Int) (e:Nm3×Int):Bool:=decide (e.2<=bW ln (A.eM e.1))
noncomputable def dB (ln:List Int) (n:Nm3):Bool:=decide (n.2.1<=bW ln n.1)
noncomputable def DiA.brk (A:DiA) (ln:List Int):List Nm3:=((A.ta.filter (A.eE ln)).map (·.1)).filter λ n=>!dB ln n
theorem rQ:(σ++[ov]).set σ.length v=σ++[v]:=by
 rw[List.set_append_right _ _ (Nat.le_refl _),CV];rfl
theorem sS:(σ++[v])[σ.length]? = some v:=by
 rw[B5 (Nat.le_refl _),CV];rfl
theorem Lo.ta (lo:Lo K t G H L A n) (M:n<=30):A.A.ta.length<=90/\∀ e∈A.A.ta,Small e.1/\∃ l∈A.A.po,l.nm=e.1:=by
 have:=lo.bn
 have F:=kT (b:=A.A.po.map (·.nm)) lo.wf.nt λ z O=>by
  obtain⟨e,j,rfl⟩:=BV.mp O
  obtain⟨U,q,y,_⟩:=lo.wf.tp e j
  rw[<- y];exact BX q
 rw[BB,BB] at F
 refine⟨by lia,λ e j=>?_⟩
 obtain⟨l,J,y,_⟩:=lo.wf.tp e j
 exact⟨by rw[<- y];exact lo.small M l J,l,J,y⟩
noncomputable def pQ (d:Int):fE:=if d%3=0 then .never else if d%3=1 then .each else .bundle (1+d/3%8)
noncomputable def gP (c:Int) (m:Nat):List fE:=(List.range m).map λ k:Nat=>pQ (nE c (0+((k:Nat):Int)) 24)
theorem nJ:gP c (m+1)=gP c m++[pQ (nE c (0+(m:Int)) 24)]:=by
 unfold gP;rw[Ff,B7];rfl
noncomputable def zj (K:W.Frag) (t:Adr):Sp:=λ vs H Q _=>∃ (c:Int) (m:Nat),vs=[.int c,.int m]/\m<=5 /\
 ∀ (l:Addr) (has:List Addr) (hbs:List fE) (H':Hp),aL H H'->H l=none->H' l=some (.lst (has.map V.ref))->has.length=m->hbs.length=m->hbs=gP c m->(∀ (i:Nat) ha hb,has[i]? = some ha->hbs[i]? = some hb->jg t H' ha hb)->Q (.ref l) H'
theorem uO (T:Txt K mg t):bB P w K mg base (CXr P w) 4 t.f_bs t.fd_bs ["_law_cell","_law_many"] (zj K t):=by
 refine T.F_bs.okN nW (λ vs H Q E h=>?_) (λ cdv A outer s H vs Q E hr h=>?_)
 ·obtain⟨c,m,rfl,_⟩:=h;rfl
 ·obtain⟨c,m,rfl,m1,k⟩:=h
  refine⟨_,(aH (aW (i:=2) nW.nd rfl (Or.inl rfl) (cG aG))
   (aH (cZ PassesOwn.never rfl (bS rfl T.no_range (aI (pv 1) aG)) (bq (i:=3) nW.nd rfl (Or.inl rfl))
    (aH (aW (i:=4) nW.nd rfl (Or.inl rfl) (aV (nP (K:=K) T) (hr.mono (by decide)) rfl T.mg_cd T.kp_cd T.b_cd .nil aK (aI (pv 0) (aI (pv 3) (aI aN aG)))))
   (aJ (bh (cF (K:=K) Cc Cm Ck bM (pv 2) (aI (bb (aZ (K:=K)) (cG (aI (lO T.mk_Never rfl T.mg_Never) (aI (lO T.mk_Each rfl T.mg_Each) (aI (fm T.mk_Bundle (zo (K:=K) T) (hr.mono (by decide)) rfl T.mg_Bundle T.b_bo .nil aK (aI (ba da aN (ba b7 (ba cp (pv 4) aN) aN)) aG)) aG)))) (ba b7 (pv 4) aN) (λ _ _=>rfl)) aG))))))
   (aJ (aR (pv 2))))),?_⟩
  refine⟨by decide,λ l hl=>?_⟩
  refine⟨_,rfl,(m:Int),rfl,by lia,by lia,cS (lo:=0)
   (λ i σ H2=>(∃ (has:List Addr) (hbs:List fE),has.length=i/\hbs.length=i/\hbs=gP c i/\H2 l=some (.lst (has.map V.ref))/\aL H H2/\∀ (j:Nat) ha hb,has[j]? = some ha->hbs[j]? = some hb->ha≠l/\jg t H2 ha hb)/\∃ o1 o2,σ=[some (.int c),some (.int m),some (.ref l),o1,o2])
   ⟨⟨[],[],rfl,rfl,rfl,aD,aL.new hl,(λ j ha hb e=>by simp at e)⟩,_,_,rfl⟩ ?_ ?_⟩
  ·rintro i σ H2 hi ⟨⟨has,hbs,l1,l2,eh,el,s2,hh⟩,o1,o2,rfl⟩
   refine⟨_,rfl,_,rfl,c,_,24,rfl,by lia,by lia,by decide,by decide,λ d de d0 d1=>?_⟩
   refine⟨_,rfl,.inl ⟨rfl,_,SqL.of el⟩,?_⟩
   have fin:∀ (H6:Hp) (q:Addr) (hb:fE),hb=pQ d->aL H2 H6->H2 q=none->jg t H6 q hb ->
     ∃ (has':List Addr) (hbs':List fE),has'.length=i+1/\hbs'.length=i+1/\hbs'=gP c (i+1)/\upd H6 l (.lst (has.map V.ref++[.ref q])) l=some (.lst (has'.map V.ref))/\aL H (upd H6 l (.lst (has.map V.ref++[.ref q]))) /\
      ∀ (j:Nat) ha hb,has'[j]? = some ha->hbs'[j]? = some hb->ha≠l/\jg t (upd H6 l (.lst (has.map V.ref++[.ref q]))) ha hb:=λ H6 q hb ehb s6 nq hq=>by
    have up:∀ {ha:Addr} {hb:fE},ha≠l->jg t H6 ha hb->jg t (upd H6 l (.lst (has.map V.ref++[.ref q]))) ha hb:=λ{ha hb} n h=>by
     cases hb<;>exact let ⟨dx,z⟩:=h;⟨dx,by rw[aE n];exact z⟩
    refine⟨has++[q],hbs++[hb],by simp[l1],by simp[l2],by rw[nJ,eh,ehb,de],by rw[aD,B7];rfl,λ c u e=>?_,λ j ha hb' e1 e2=>?_⟩
    ·rw[aE (aF e hl)];exact s6 _ _ (s2 _ _ e)
    ·rcases DY j i with g|g|g
     ·rw[Cn (by lia)] at e1 e2
      obtain⟨n,h⟩:=hh j ha hb' e1 e2
      exact⟨n,up n (h.same s6)⟩
     ·subst g
      rw[B5 (by lia),l1,CV] at e1
      rw[B5 (by lia),l2,CV] at e2
      have n:q≠l:=λ z=>by rw[z,el] at nq;cases nq
      cases e1;cases e2
      exact⟨n,up n hq⟩
     ·rw[Cv (by rw[BL,B3];lia)] at e1;cases e1
   intro q1 x1 n1 m1' w1 q2 x2 n2 m2 w2
   have t0:=CM (d/3) (b:=8) (by decide)
   have t1:=Cz (d/3) (b:=8) (by decide)
   refine⟨_,rfl,_,_,rfl,rfl,⟨by decide,by decide⟩,_,_,rfl,rfl,by show (0:Int)<8;decide,_,_,rfl,rfl,λ q3 x3 n3 m3 w3=>⟨q3,x3,_,rfl,aD,λ _ _=>⟨rfl,by show 3<=sizeLine;decide,λ b nb=>?_⟩,λ z=>absurd ⟨by lia,by lia⟩ z⟩⟩
   have fr:∀ {q:Addr} {H1:Hp},aL H2 H1->H1 q=none->H2 q=none:=λ{q H1} s z=>by
    cases e:H2 q with
    | none=>rfl
    | some u=>rw[s _ _ e] at z;cases z
   have s1:=aL.ins (o:=.ins t.c_Never x1 []) n1 m1'
   have s2':=aL.ins (o:=.ins t.c_Each x2 []) n2 m2
   have s3:=aL.ins (o:=.ins t.c_Bundle x3 []) n3 m3
   generalize e1:upd (upd H2 x1 (HO.own q1)) q1 (HO.ins t.c_Never x1 [])=J1 at *
   generalize e2:upd (upd J1 x2 (HO.own q2)) q2 (HO.ins t.c_Each x2 [])=J2 at *
   generalize e3:upd (upd J2 x3 (HO.own q3)) q3 (HO.ins t.c_Bundle x3 [])=J3 at *
   have s4:aL J2 (upd J3 q3 (.ins t.c_Bundle x3 (aP "size" (.int (1+d/3%8)) []))):=λ c u e=>by
    rw[aE (aF e n3)];exact s3 _ _ e
   have s5:=aL.new (o:=.lst [.ref q1,.ref q2,.ref q3]) nb
   have sa:aL H2 _:=s1.trans (s2'.trans (s4.trans s5))
   have cs:d%3=0\/d%3=1\/d%3=2:=by lia
   have la:has.length<sizeLine:=CQ (show has.length<=5 by rw[Cg] at hi;lia) (by decide)
   have la':(has.map V.ref).length<sizeLine:=by rw[BB];exact la
   rcases cs with e|e|e
   ·exact⟨_,rfl,_,_,rfl,rfl,by show (0:Int)<3;decide,b,_,_,.ref q1,rfl,rfl,SqL.of aD,(by rw[e];rfl),l,_,.ref q1,rfl,rfl,sa _ _ el,la',fin _ q1 .never (by unfold pQ;rw[BN e]) sa n1 ⟨x1,(s2'.trans (s4.trans s5)) _ _ (by rw[<- e1];exact aD)⟩,_,_,rfl⟩
   ·exact⟨_,rfl,_,_,rfl,rfl,by show (0:Int)<3;decide,b,_,_,.ref q2,rfl,rfl,SqL.of aD,(by rw[e];rfl),l,_,.ref q2,rfl,rfl,sa _ _ el,la',fin _ q2 .each (by unfold pQ;rw[BI (by lia),BN e]) sa (fr s1 n2) ⟨x2,(s4.trans s5) _ _ (by rw[<- e2];exact aD)⟩,_,_,rfl⟩
   ·exact⟨_,rfl,_,_,rfl,rfl,by show (0:Int)<3;decide,b,_,_,.ref q3,rfl,rfl,SqL.of aD,(by rw[e];rfl),l,_,.ref q3,rfl,rfl,sa _ _ el,la',fin _ q3 (.bundle (1+d/3%8)) (by unfold pQ;rw[BI (by lia),BI (by lia)]) sa (fr (s1.trans s2') n3) ⟨x3,s5 _ _ aD⟩,_,_,rfl⟩
  ·rintro σ H2 ⟨⟨has,hbs,l1,l2,eh,el,s2,hh⟩,o1,o2,rfl⟩
   rw[Cg] at l1 l2 eh
   exact⟨_,rfl,k l has hbs H2 s2 hl el l1 l2 eh λ j ha hb e1 e2=>(hh j ha hb e1 e2).2⟩
noncomputable def fR (A:LoA) (H:Hp) (v:V):Prop:=∃ b,v=.ref b/\((∃ (j:Nat),j<A.many/\H b=some (.tup [.str "own",.int j]))\/(∃ (j:Nat),j<A.many/\H b=some (.tup [.str "write",.int j])) \/
 ∃ (j:Nat) (c:Addr) (l:cQ),j<A.many/\H b=some (.tup [.str "use",.int j,.ref c])/\H c=some (.tup (nV l.nm))/\l∈A.A.po/\l.nm∉A.A.ta.map (·.1)/\l.to=j/\(A.ord=true->∀ l'∈A.A.po,l'.nm∉A.A.ta.map (·.1)->l'.nm.1=l.nm.1->l'.to=l.to->cd3 l.nm<=cd3 l'.nm))
theorem fR.keep (s:∀ b xs,H b=some (.tup xs)->H' b=some (.tup xs)) (h:fR A H v):fR A H' v:=by
 obtain⟨b,e,h⟩:=h
 refine⟨b,e,?_⟩
 rcases h with ⟨j,h1,h2⟩|⟨j,h1,h2⟩|⟨j,c,l,h1,h2,q,F⟩
 ·exact .inl ⟨j,h1,s _ _ h2⟩
 ·exact .inr (.inl ⟨j,h1,s _ _ h2⟩)
 ·exact .inr (.inr ⟨j,c,l,h1,s _ _ h2,s _ _ q,F⟩)
noncomputable def kz (A:LoA) (L:LoL) (H4:Hp) (l ds wd:Addr) (ns:List Nm3) (i:Nat) (σ:St) (H:Hp):Prop:=∃ fs kvs o4 o5 o6,H l=some (.lst fs)/\fs.length<=i/\(∀ v∈fs,fR A H v)/\H wd=some (.dT kvs)/\kvs.length<=i /\
 (∀ j,j<i->∀ x∈A.A.po,ns[j]? = some x.nm->(bL kvs (wk (x.nm.1,x.to))).isSome=true)/\(∀ c u,c≠l->c≠wd->H4 c=some u->H c=some u)/\σ=[some (.ref L.p),some (.ref l),some (.ref ds),some (.ref wd),o4,o5,o6]
noncomputable def Bb (K:W.Frag) (t:Adr):Sp:=λ vs H Q _=>∃ G L A n,vs=[.ref L.p]/\Lo K t G H L A n/\n<=30/\∀ l ds H',aL H H'->H l=none->H' l=some (.lst ds)->0<ds.length->ds.length<=100->(∀ v∈ds,fR A H' v)->Q (.ref l) H'
theorem zi (T:Txt K mg t):bB P w K mg base (CXr P w) 2 t.f_cf t.fd_cf ["_law_loom_here"] (Bb K t):=by
 refine T.F_cf.okN iy (λ vs H Q E h=>?_) (λ cdv A outer s H vs Q E hr h=>?_)
 ·obtain⟨G,L,A,n,rfl,_⟩:=h;rfl
 ·obtain⟨G,L,A,n,rfl,lo,hn,k⟩:=h
  refine⟨_,(aH (aW (i:=1) iy.nd rfl (Or.inl rfl) (cG aG))
   (aH (aW (i:=2) iy.nd rfl (Or.inl rfl) (aU (pv 0) T.cl_Loom T.me_ag (uQ (K:=K) T) (hr.mono (by decide)) T.b_ag .nil aK))
   (aH (aW (i:=3) iy.nd rfl (Or.inl rfl) eH)
   (aH (cZ PassesOwn.never rfl (cX (K:=K) (aU (pv 0) T.cl_Loom T.me_cn (qX (K:=K) T) (hr.mono (by decide)) T.b_cn .nil aK)) (bq (i:=4) iy.nd rfl (Or.inl rfl))
    (aH (aW (i:=5) iy.nd rfl (Or.inl rfl) (cf (aI (bb (bz (K:=K)) (pv 4) aN (λ _ _=>rfl)) (aI (bb (bz (K:=K)) (df (cy hr) (pv 2) (pv 4) (λ _ _=>rfl)) aN (λ _ _=>rfl)) aG))))
   (aH (bQ (PW.pt (fP (cY (cI (aO (K:=K) (pv 0) rfl))) (gB (iM (dP (cy hr) (pv 5) (pv 3))))))
    (aJ (bh (cF (K:=K) Cc Cm Ck bM (pv 1) (aI (cf (aI dD (aI (bb (bz (K:=K)) (pv 5) aN (λ _ _=>rfl)) (aI (pv 4) aG)))) aG))))
    bu)
   (aJ (ij (cy hr) (pv 3) (pv 5) eZ rfl)))))
   (aH (cZ PassesOwn.never rfl (bS rfl T.no_range (aI (aO (K:=K) (pv 0) rfl) aG)) (bq (i:=6) iy.nd rfl (Or.inl rfl))
    (aH (bh (cF (K:=K) Cc Cm Ck bM (pv 1) (aI (cf (aI dD (aI (pv 6) aG))) aG)))
   (aJ (bh (cF (K:=K) Cc Cm Ck bM (pv 1) (aI (cf (aI dD (aI (pv 6) aG))) aG))))))
   (aJ (aR (pv 1)))))))),?_⟩
  refine sq λ rr1 ee1=>?_
  refine⟨by decide,λ l hl=>?_⟩
  have s1:=aL.new (o:=.lst []) hl
  have lo1:=lo.same s1
  refine(sn ee1 λ rr2 ee2=>?_:rr1 _ _ _)
  refine⟨_,rfl,L.p,L.dx,_,rfl,lo1.c.self,rfl,G,L,A,n,rfl,lo1,hn,λ ds H2 s2 nds e2=>(sn ee2 λ rr3 ee3=>λ wd nwd=>?_:rr2 _ _ _)⟩
  have el2:=s2 _ _ (aD (H:=H) (a:=l) (o:=.lst []))
  have s13:=s1.trans s2
  generalize upd H l (.lst [])=H1 at s1 lo1 s2 nds
  have s3:=aL.new (o:=.dT []) nwd
  have s03:=s13.trans s3
  have lo3:=lo.same s03
  refine(sn ee3 λ rr4 ee4=>?_:rr3 _ _ _)
  refine⟨_,rfl,L.p,L.dx,_,rfl,lo3.c.self,rfl,G,L,A,n,rfl,lo3,hn,λ r ls ns H4 s4 nr er nl as pm=>?_⟩
  have s04:=s03.trans s4
  have el4:=(s3.trans s4) _ _ el2
  have ew4:=s4 _ _ (aD (H:=H2) (a:=wd) (o:=.dT []))
  have ed4:=(s3.trans s4) _ _ e2
  have lw:l≠wd:=λ z=>by rw[z,ew4] at el4;cases el4
  have rl:r≠l:=λ z=>by rw[z,(s3 _ _ el2)] at nr;cases nr
  have rw':r≠wd:=λ z=>by rw[z,aD] at nr;cases nr
  have dl:ds≠l:=λ z=>by rw[z,el4] at ed4;cases ed4
  have dw:ds≠wd:=λ z=>by rw[z,nwd] at e2;cases e2
  have lo4:=lo.same s04
  have nsl:ns.length<=90:=by
   rw[pm.length_eq,BB]
   have:=Dj (λ l:cQ=>decide (l.nm∉A.A.ta.map (·.1))) A.A.po
   have:=lo.bn
   unfold DiA.free;lia
  have lsl:=nl.len
  have pl:∀ {c:Addr},c=l\/c=wd->H c=none:=λ{c} z=>by
   rcases z with rfl|rfl
   ·exact hl
   ·exact s13.free nwd
  have frame:∀ {H5:Hp},(∀ c u,c≠l->c≠wd->H4 c=some u->H5 c=some u)->aL H H5:=λ{H5} h c u e=>h c u (aF e hl) (aF e (s13.free nwd)) (s04 _ _ e)
  refine⟨r,rfl,⟨_,SqL.of er⟩,kX (xs:=ls) (kz A L H4 l ds wd ns) ⟨[],[],_,_,_,el4,Nat.le_refl _,(λ v hv=>by cases hv),ew4,Nat.le_refl _,(λ j hj=>absurd hj (Nat.not_lt_zero _)),λ c u _ _ e=>e,rfl⟩ ?_ ?_ ?_⟩
  ·rintro i σ2 H5 _ ⟨fs,kvs,o4,o5,o6,_,_,_,_,_,_,fr,_⟩
   exact SqL.of (fr _ _ rl rw' er)
  ·rintro i x σ2 H5 hx ⟨fs,kvs,o4,o5,o6,f1,f2,f3,f4,f5,f6,fr,rfl⟩
   have i90:i<90:=by have:=(BE.mp hx).1;lia
   obtain⟨n0,b,rfl,hb⟩:∃ n0,eF H4 x n0:=⟨_,nl.all x (BJ hx)⟩
   have hn0:ns[i]? = some n0:=by
    rw[<- nl.eq,BC,hx]
    exact congrArg some (eF.of ⟨b,rfl,hb⟩)
   obtain⟨l0,hl0,rfl⟩:=BV.mp (pm.mem_iff.mp (BJ hn0))
   obtain⟨hp0,ht0⟩:=Cy.mp hl0
   have ht0:l0.nm∉A.A.ta.map (·.1):=CN ht0
   have v1:bL (A.A.po.map λ l=>(nk l.nm,V.ref l.adr)) (nk l0.nm)=some (.ref l0.adr):=ck (λ l:cQ=>nk l.nm) (λ l=>V.ref l.adr) (cJ (f:=cQ.nm) cm lo.wf.nd) hp0
   have rg:=lo.wf.rg l0 hp0
   have tup5:∀ {c xs},H4 c=some (.tup xs)->H5 c=some (.tup xs):=λ{c xs} e=>fr _ _ (λ z=>by rw[z,el4] at e;cases e) (λ z=>by rw[z,ew4] at e;cases e) e
   have hb5:=tup5 hb
   have ha5:=tup5 (s04 _ _ (lo.c.held _ _ (lo.c.di.lets l0 hp0)))
   refine⟨_,rfl,b,_,0,.int l0.nm.1,rfl,rfl,SqT.of hb5,b9,_,rfl,_,rfl,ds,.ref l0.adr,rfl,.inr ⟨_,nk l0.nm,b,.inl (fr _ _ dl dw ed4),rfl,hb5,v1.symm⟩,l0.adr,_,0,.int l0.to,rfl,rfl,SqT.of ha5,b9,by show 2<=sizeLine;decide,λ kb hkb=>?_⟩
   have s6:=aL.new (o:=.tup [.int l0.nm.1,.int l0.to]) hkb
   have hb6:=s6 _ _ hb5
   have g1:=s6 _ _ f1
   have g3:∀ v∈fs,fR A _ v:=λ v hv=>(f3 v hv).keep λ c xs e=>s6 _ _ e
   have g4:=s6 _ _ f4
   have gk:=aD (H:=H5) (a:=kb) (o:=.tup [.int l0.nm.1,.int l0.to])
   have g7:∀ c u,c≠l->c≠wd->H4 c=some u->upd H5 kb (.tup [.int l0.nm.1,.int l0.to]) c=some u:=λ c u n1 n2 e=>s6 _ _ (fr c u n1 n2 e)
   generalize upd H5 kb (.tup [.int l0.nm.1,.int l0.to])=H6 at s6 hb6 g1 g3 g4 gk g7 ⊢
   have fin:∀ (H7:Hp) (fs':List V),H7 l=some (.lst fs')->fs'.length<=i+1->(∀ v∈fs',fR A H7 v)->H7 wd=some (.dT kvs)->(∀ c u,c≠l->c≠wd->H4 c=some u->H7 c=some u) ->
     kz A L H4 l ds wd ns (i+1) [some (.ref L.p),some (.ref l),some (.ref ds),some (.ref wd),some (.ref b),some (.ref kb),o6] (upd H7 wd (.dT (putK kvs (wk (l0.nm.1,l0.to)) (.bl true)))):=λ H7 fs' a1 a2 a3 a4 a5=>by
    refine⟨fs',_,_,_,_,by rw[aE lw];exact a1,a2,λ v hv=>(a3 v hv).keep λ c xs e=>by rw[aE (λ z=>by rw[z,a4] at e;cases e)];exact e,aD,B6 (eK _ _ _) (by lia),λ j hj x hx ej=>?_,λ c u n1 n2 e=>by rw[aE n2];exact a5 c u n1 n2 e,rfl⟩
    rw[qL]
    by_cases z:wk (x.nm.1,x.to)=wk (l0.nm.1,l0.to)
    ·rw[BN z];rfl
    ·rw[BI z]
     rcases Nat.lt_succ_iff_lt_or_eq.mp hj with q|q
     ·exact f6 j q x hx ej
     ·rw[q,hn0] at ej
      exact absurd (by rw[gC lo.wf.nd hx hp0 (Option.some.inj ej).symm]) z
   have kl:kvs.length<sizeLine:=bg (by lia)
   have noUse:kz A L H4 l ds wd ns (i+1) [some (.ref L.p),some (.ref l),some (.ref ds),some (.ref wd),some (.ref b),some (.ref kb),o6] (upd H6 wd (.dT (putK kvs (wk (l0.nm.1,l0.to)) (.bl true)))):=fin H6 fs g1 (by lia) g3 g4 g7
   have use:∀ ub,H6 ub=none->(A.ord=true->bL kvs (wk (l0.nm.1,l0.to))=none)->∀ H7,H7=upd (upd H6 ub (.tup [.str "use",.int l0.to,.ref b])) l (.lst (fs++[.ref ub]))->(H7 wd=some (.dT kvs)/\H7 kb=some (.tup [.int l0.nm.1,.int l0.to]))/\kz A L H4 l ds wd ns (i+1) [some (.ref L.p),some (.ref l),some (.ref ds),some (.ref wd),some (.ref b),some (.ref kb),o6] (upd H7 wd (.dT (putK kvs (wk (l0.nm.1,l0.to)) (.bl true)))):=λ ub nub hv H7 e7=>by
    have s7:=aL.new (o:=.tup [.str "use",.int l0.to,.ref b]) nub
    have tp:∀ {c xs},upd H6 ub (.tup [.str "use",.int l0.to,.ref b]) c=some (.tup xs)->H7 c=some (.tup xs):=λ{c xs} e=>by
     rw[e7,aE (λ z=>by rw[z,s7 _ _ g1] at e;cases e)];exact e
    have w7:H7 wd=some (.dT kvs):=by rw[e7,aE (Ne.symm lw)];exact s7 _ _ g4
    refine⟨⟨w7,tp (s7 _ _ gk)⟩,fin H7 _ (by rw[e7];exact aD) (by rw[BL,B3];lia) (λ v hv'=>?_) w7 λ c u n1 n2 e=>by rw[e7,aE n1];exact s7 _ _ (g7 c u n1 n2 e)⟩
    rcases BH.mp hv' with z|z
    ·exact(g3 v z).keep λ c xs e=>tp (s7 _ _ e)
    ·rw[BD] at z
     subst z
     refine⟨ub,rfl,.inr (.inr ⟨l0.to.toNat,b,l0,by lia,?_,tp (s7 _ _ hb6),hp0,ht0,by lia,λ ho l' hl' nt' e1 e2=>?_⟩)⟩
     ·rw[Int.toNat_of_nonneg rg.2.2.2.2.2.2.1];exact tp aD
     ·have hv:=hv ho
      have m':l'.nm∈ns:=pm.mem_iff.mpr (BX (Cy.mpr ⟨hl',by simpa using nt'⟩))
      obtain⟨j,hj⟩:=List.getElem?_of_mem m'
      rcases DY j i with q|q|q
      ·have:=f6 j q l' hl' hj
       rw[e1,e2,hv] at this;cases this
      ·rw[q,hn0] at hj
       rw[Option.some.inj hj];exact CS _
      ·obtain⟨b1,c1⟩:=BE.mp hn0
       obtain⟨b2,c2⟩:=BE.mp hj
       have:=Dg.mp as i j b1 b2 q
       rw[c1,c2] at this
       lia
   refine⟨_,rfl,L.p,_,L.dx,_,_,rfl,s6 _ _ (frame fr _ _ lo.c.self),T.cl_Loom,T.na_bi,rfl,A.ord,rfl,eC (λ z=>dF ?_) λ z=>?_⟩
   ·refine⟨_,rfl,.inl ⟨rfl,_,SqL.of g1⟩,_,rfl,kb,_,1,.int l0.to,rfl,rfl,SqT.of gk,rfl,_,rfl,by show 3<=sizeLine;decide,λ ub nub=>⟨l,fs,.ref ub,rfl,rfl,aL.new nub _ _ g1,bg (by lia),?_⟩⟩
    obtain⟨⟨u1,u2⟩,u3⟩:=use ub nub (λ h=>by rw[h] at z;cases z) _ rfl
    exact⟨_,rfl,_,rfl,wd,_,rfl,.inr ⟨kvs,wk (l0.nm.1,l0.to),kb,u1,rfl,u2,kl,rfl⟩,u3⟩
   ·refine⟨_,rfl,_,rfl,wd,_,rfl,.inr ⟨kvs,wk (l0.nm.1,l0.to),kb,.inl g4,rfl,gk,rfl⟩,_,rfl,?_⟩
    cases ev:bL kvs (wk (l0.nm.1,l0.to)) with
    | some v=>exact gy ⟨_,rfl,_,rfl,wd,_,rfl,.inr ⟨kvs,wk (l0.nm.1,l0.to),kb,g4,rfl,gk,kl,rfl⟩,noUse⟩
    | none=>
     refine dF ⟨_,rfl,.inl ⟨rfl,_,SqL.of g1⟩,_,rfl,kb,_,1,.int l0.to,rfl,rfl,SqT.of gk,rfl,_,rfl,by show 3<=sizeLine;decide,λ ub nub=>⟨l,fs,.ref ub,rfl,rfl,aL.new nub _ _ g1,bg (by lia),?_⟩⟩
     obtain⟨⟨u1,u2⟩,u3⟩:=use ub nub (λ h=>ev) _ rfl
     exact⟨_,rfl,_,rfl,wd,_,rfl,.inr ⟨kvs,wk (l0.nm.1,l0.to),kb,u1,rfl,u2,kl,rfl⟩,u3⟩
  ·rintro σ2 H5 ⟨fs,kvs,o4,o5,o6,f1,f2,f3,f4,f5,f6,fr,rfl⟩
   have m2:=lo.m2
   refine(sn ee4 λ rr5 ee5=>?_:rr4 _ _ _)
   refine⟨_,rfl,L.p,_,L.dx,_,_,rfl,frame fr _ _ lo.c.self,T.cl_Loom,T.na_cs,rfl,(A.many:Int),rfl,by lia,by lia,cS (lo:=0)
    (λ i σ3 H6=>∃ fs' o6,H6 l=some (.lst fs')/\(i≠0->0<fs'.length)/\fs'.length<=90+2*i/\(∀ v∈fs',fR A H6 v)/\aL H H6/\σ3=[some (.ref L.p),some (.ref l),some (.ref ds),some (.ref wd),o4,o5,o6])
    ⟨fs,_,f1,λ z=>absurd rfl z,by lia,f3,frame fr,rfl⟩ ?_ ?_⟩
   ·rintro i σ3 H6 hi ⟨fs',o6',a1,a2,a3,a4,a5,rfl⟩
    rw[Cg] at hi
    refine⟨_,rfl,.inl ⟨rfl,_,SqL.of a1⟩,_,rfl,by show 2<=sizeLine;decide,λ b1 nb1=>⟨l,fs',.ref b1,rfl,rfl,aL.new nb1 _ _ a1,bg (by lia),?_⟩⟩
    have s7:=aL.new (o:=.tup [.str "own",.int (0+i)]) nb1
    have t7:∀ c xs,upd H6 b1 (.tup [.str "own",.int (0+i)]) c=some (.tup xs)->upd (upd H6 b1 (.tup [.str "own",.int (0+i)])) l (.lst (fs'++[.ref b1])) c=some (.tup xs):=λ c xs e=>by
     rw[aE (λ z=>by rw[z,s7 _ _ a1] at e;cases e)];exact e
    have o7:∀ v∈fs'++[.ref b1],fR A (upd (upd H6 b1 (.tup [.str "own",.int (0+i)])) l (.lst (fs'++[.ref b1]))) v:=λ v hv=>by
     rcases BH.mp hv with z|z
     ·exact(a4 v z).keep λ c xs e=>t7 _ _ (s7 _ _ e)
     ·rw[BD] at z
      subst z
      exact⟨b1,rfl,.inl ⟨i,hi,t7 _ _ (by rw[aD,Fc])⟩⟩
    have l7:upd (upd H6 b1 (.tup [.str "own",.int (0+i)])) l (.lst (fs'++[.ref b1])) l=some (.lst (fs'++[.ref b1])):=aD
    have sm7:aL H (upd (upd H6 b1 (.tup [.str "own",.int (0+i)])) l (.lst (fs'++[.ref b1]))):=λ c u e=>by
     rw[aE (aF e hl)];exact s7 _ _ (a5 _ _ e)
    generalize upd (upd H6 b1 (.tup [.str "own",.int (0+i)])) l (.lst (fs'++[.ref b1]))=H7 at o7 l7 sm7 ⊢
    have le7:(fs'++[V.ref b1]).length=fs'.length+1:=by simp
    refine⟨_,rfl,.inl ⟨rfl,_,SqL.of l7⟩,_,rfl,by show 2<=sizeLine;decide,λ b2 nb2=>⟨l,_,.ref b2,rfl,rfl,aL.new nb2 _ _ l7,bg (by lia),?_⟩⟩
    have s8:=aL.new (o:=.tup [.str "write",.int (0+i)]) nb2
    have t8:∀ c xs,upd H7 b2 (.tup [.str "write",.int (0+i)]) c=some (.tup xs)->upd (upd H7 b2 (.tup [.str "write",.int (0+i)])) l (.lst ((fs'++[.ref b1])++[.ref b2])) c=some (.tup xs):=λ c xs e=>by
     rw[aE (λ z=>by rw[z,s8 _ _ l7] at e;cases e)];exact e
    refine⟨_,_,aD,λ _=>by simp,by rw[BL,le7,B3];lia,λ v hv=>?_,λ c u e=>?_,rfl⟩
    ·rcases BH.mp hv with z|z
     ·exact(o7 v z).keep λ c xs e=>t8 _ _ (s8 _ _ e)
     ·rw[BD] at z
      subst z
      exact⟨b2,rfl,.inr (.inl ⟨i,hi,t8 _ _ (by rw[aD,Fc])⟩)⟩
    ·rw[aE (aF e hl)];exact s8 _ _ (sm7 _ _ e)
   ·rintro σ3 H6 ⟨fs',o6',a1,a2,a3,a4,a5,rfl⟩
    rw[Cg] at a2 a3
    subst ee5
    exact⟨_,rfl,k l fs' H6 a5 hl a1 (a2 (by lia)) (by lia) a4⟩
theorem iw {j q:List Addr}{H H1 H2:Hp}(F:But j H H1) (J:But q H1 H2) (f:∀ b∈q,b∈j\/H b=none):But j H H2:=λ c u n e=>
 J c u (λ z=>(f c z).elim n (λ M=>by rw[M] at e;cases e)) (F c u n e)
theorem iY {j q F:List Addr}{H H1:Hp}(J:But j H H1) (f:∀ b∈q,b∈j\/H b=none) (g:∀ b∈F,b∈q\/H1 b=none):∀ b∈F,b∈j\/H b=none:=λ b M=>by
 rcases g b M with z|z
 ·exact f b z
 ·by_cases y:b∈j
  ·exact .inl y
  ·refine .inr ?_
   cases e:H b with
   | none=>rfl
   | some u=>rw[J b u y e] at z;cases z
noncomputable def zy (K:W.Frag) (t:Adr):Sp:=λ vs H Q _=>∃ G L A,∃ c:Int,∃ m:Nat,vs=[.ref L.p,.int c,.int m]/\Lo K t G H L A 0/\m<=30/\∀ G' H' A',But (L.own A) H H'->Lo K t G' H' L A' m->A'.many=A.many->Q .non H'
theorem xu (T:Txt K mg t):bB P w K mg base (CXr P w) 7 t.f_cg t.fd_cg ["_law_loom_here","_law_cell","_law_size"] (zy K t):=by
 refine T.F_cg.okN oG (λ vs H Q E h=>?_) (λ cdv A outer s H vs Q E hr h=>?_)
 ·obtain⟨G,L,A,c,m,rfl,_⟩:=h;rfl
 ·obtain⟨G,L,A,c,m,rfl,lo,hm,k⟩:=h
  refine⟨_,(aJ (cZ PassesOwn.never rfl (bS rfl T.no_range (aI (pv 2) aG)) (bq (i:=3) oG.nd rfl (Or.inl rfl))
    (aH (aW (i:=4) oG.nd rfl (Or.inl rfl) (aV (zi (K:=K) T) (hr.mono (by decide)) rfl T.mg_cf T.kp_cf T.b_cf .nil aK (aI (pv 0) aG)))
   (aH (aW (i:=5) oG.nd rfl (Or.inl rfl) (bb (aZ (K:=K)) (pv 4) (ba b7 (aV (nP (K:=K) T) (hr.mono (by decide)) rfl T.mg_cd T.kp_cd T.b_cd .nil aK (aI (pv 1) (aI (pv 3) (aI aN aG)))) (bP (dH (K:=K)) rfl T.no_len lA (aI (pv 4) aG))) (λ _ _=>rfl)))
   (aJ (bQ (bA i4 (bb (bz (K:=K)) (pv 5) aN (λ _ _=>rfl)) dD (bD _))
    (aJ (bh (bj (pv 0) T.cl_Loom T.me_cx (xE (K:=K) T) (hr.mono (by decide)) T.b_cx .nil aK (aI (bb (bz (K:=K)) (pv 5) aN (λ _ _=>rfl)) (aI (bb (bz (K:=K)) (pv 5) aN (λ _ _=>rfl)) aG)))))
    (aJ (bQ (bA i4 (bb (bz (K:=K)) (pv 5) aN (λ _ _=>rfl)) dD (bD _))
    (aJ (bh (bj (pv 0) T.cl_Loom T.me_cw (AY (K:=K) T) (hr.mono (by decide)) T.b_cw .nil aK (aI (bb (bz (K:=K)) (pv 5) aN (λ _ _=>rfl)) aG))))
    (aJ (bh (bj (pv 0) T.cl_Loom T.me_ce (xS (K:=K) T) (hr.mono (by decide)) T.b_ce .nil aK (aI (bb (bz (K:=K)) (pv 5) aN (λ _ _=>rfl)) aG)))))))))))),?_⟩
  refine⟨_,rfl,(m:Int),rfl,by lia,by lia,cS (lo:=0)
   (λ i σ H2=>∃ G2 A2 o3 o4 o5,But (L.own A) H H2/\Lo K t G2 H2 L A2 i/\A2.many=A.many/\(∀ b∈L.own A2,b∈L.own A\/H b=none)/\σ=[some (.ref L.p),some (.int c),some (.int m),o3,o4,o5])
   ⟨G,A,_,_,_,But.of (aL.refl _),lo,rfl,λ b hb=>.inl hb,rfl⟩ ?_ ?_⟩
  ·rintro i σ H2 hi ⟨G2,A2,o3,o4,o5,bt,lo2,e2,ow,rfl⟩
   rw[Cg] at hi
   refine⟨_,rfl,G2,L,A2,i,rfl,lo2,by lia,λ l ds H3 s3 nl el d0 d1 al=>?_⟩
   have q0:(0:Int)<(ds.length:Int):=by lia
   refine⟨_,rfl,_,rfl,_,rfl,c,_,120,rfl,by lia,by lia,by decide,by decide,λ d _ x0 x1=>⟨_,rfl,l,_,rfl,.inl (SqL.of el),_,_,rfl,rfl,q0,?_⟩⟩
   have y0:=CM d (b:=(ds.length:Int)) (by lia)
   have y1:=Cz d q0
   obtain⟨v,hv⟩:∃ v,ds[(d%(ds.length:Int)).toNat]? = some v:=⟨ds[(d%(ds.length:Int)).toNat]'(by lia),Bz _⟩
   obtain⟨b,rfl,hd⟩:=al v (BJ hv)
   have at0:atI ds (d%(ds.length:Int))=some (.ref b):=by
    have e:d%(ds.length:Int)=(((d%(ds.length:Int)).toNat:Nat):Int):=by lia
    rw[e];exact cM hv
   have bt3:But (L.own A) H H3:=λ c' u n e=>s3 _ _ (bt c' u n e)
   have lo3:=lo2.same s3
   have ow3:∀ b'∈L.own A2,b'∈L.own A\/H b'=none:=ow
   rcases hd with ⟨j,j1,hb⟩|⟨j,j1,hb⟩|⟨j,cc,l0,j1,hb,hc,p1,p2,p3,p4⟩
   ·refine⟨l,_,_,_,rfl,rfl,SqL.of el,at0,_,rfl,b,_,0,.str "own",rfl,rfl,SqT.of hb,b9,rfl,_,rfl,cj (by decide) ⟨_,rfl,b,_,0,.str "own",rfl,rfl,SqT.of hb,b9,rfl,_,rfl,f7 (by decide) ?_⟩⟩
    refine⟨_,rfl,L.p,L.dx,_,rfl,lo3.c.self,rfl,_,rfl,b,_,1,.int j,rfl,rfl,SqT.of hb,rfl,G2,L,A2,i,j,rfl,lo3,by lia,j1,λ G' H' A' b' lo' m' _ w'=>?_⟩
    exact⟨G',A',_,_,_,iw bt3 b' ow,lo',by rw[m',e2],iY bt3 ow w',rfl⟩
   ·refine⟨l,_,_,_,rfl,rfl,SqL.of el,at0,_,rfl,b,_,0,.str "write",rfl,rfl,SqT.of hb,b9,rfl,_,rfl,cj (by decide) ⟨_,rfl,b,_,0,.str "write",rfl,rfl,SqT.of hb,b9,rfl,_,rfl,cj (by decide) ?_⟩⟩
    refine⟨_,rfl,L.p,L.dx,_,rfl,lo3.c.self,rfl,_,rfl,b,_,1,.int j,rfl,rfl,SqT.of hb,rfl,G2,L,A2,i,j,rfl,lo3,by lia,j1,λ G' H' A' b' lo' m' _ w'=>?_⟩
    exact⟨G',A',_,_,_,iw bt3 b' ow,lo',by rw[m',e2],iY bt3 ow w',rfl⟩
   ·refine⟨l,_,_,_,rfl,rfl,SqL.of el,at0,_,rfl,b,_,0,.str "use",rfl,rfl,SqT.of hb,b9,rfl,_,rfl,f7 (by decide) ?_⟩
    refine⟨_,rfl,L.p,L.dx,_,rfl,lo3.c.self,rfl,_,rfl,b,_,1,.int j,rfl,rfl,SqT.of hb,rfl,_,rfl,b,_,2,.ref cc,rfl,rfl,SqT.of hb,rfl,G2,L,A2,i,j,cc,l0,rfl,lo3,by lia,j1,hc,p1,p2,p3,p4,λ G' H' A' b' lo' m' _ w'=>?_⟩
    exact⟨G',A',_,_,_,iw bt3 b' ow,lo',by rw[m',e2],iY bt3 ow w',rfl⟩
  ·rintro σ H2 ⟨G2,A2,o3,o4,o5,bt,lo2,e2,ow,rfl⟩
   rw[Cg] at lo2
   exact k G2 H2 A2 bt lo2 e2
noncomputable def yw (K:W.Frag) (t:Adr):Sp:=λ vs H Q _=>∃ a ns,vs=[.ref a]/\SqL K H a (iV ns)/\p9 H t.tb_cp (mU qo) "_law_loom.<locals>.<lambda>" /\
 ∀ G H' L A n,n<=30->Lo K t G H' L A n->SqL K H' a (iV ns)->L.habs=gP (oK ns 1) A.many->Q (.ref L.p) H'
theorem xN (T:Txt K mg t) (Tb:x8 mg base t):bB P w K mg base (CXr P w) 8 t.f_cp t.fd_cp ["_law_script"] (yw K t):=by
 refine T.F_cp.okM T.cde_cp jc (λ vs H Q E h=>?_) (λ A outer s H vs Q E hr h=>?_)
 ·obtain⟨a,ns,rfl,_⟩:=h;rfl
 ·obtain⟨a,ns,rfl,ha,tab,k⟩:=h
  refine⟨_,(j0 (aW (i:=1) jc.nd rfl (Or.inl rfl) (aV (ip (K:=K) T) (hr.mono (by decide)) rfl T.mg_bd T.kp_bd T.b_bd .nil aK (aI (pv 0) (aI aN aG))))
   (j0 (aW (i:=2) jc.nd rfl (Or.inr rfl) (aV (ip (K:=K) T) (hr.mono (by decide)) rfl T.mg_bd T.kp_bd T.b_bd .nil aK (aI (pv 0) (aI aN aG))))
   (j0 (aW (i:=3) jc.nd rfl (Or.inr rfl) (ba da aN (ba b7 (pv 1) aN)))
   (vM qo (F:=["_law_cell","_law_many"]) (ix:=[2,3]) (i:=4) (qual:="_law_loom.<locals>.<lambda>") rfl Tb.tb_cp rfl jc.nd rfl rfl (λ _=>rfl) (vR rfl) (by decide) xH qP.fre qP.isf
   (ud (aH (aW (i:=5) jc.nd rfl (Or.inl rfl) (aV (uO (K:=K) T) (hr.mono (by decide)) rfl T.mg_bs T.kp_bs T.b_bs .nil aK (aI (aV (ip (K:=K) T) (hr.mono (by decide)) rfl T.mg_bd T.kp_bd T.b_bd .nil aK (aI (pv 0) (aI aN aG))) (aI (pv 3) aG))))
   (aH (aW (i:=6) jc.nd rfl (Or.inl rfl) (fm T.mk_Loom (yg (K:=K) T) (hr.mono (by decide)) rfl T.mg_Loom T.b_co .nil aK (aI (pv 4) (aI (cC ["_law_script","_law_first","_law_cell","_law_many","_law_does","_law_habits_here","_law_loom_here","_law_k"] 1 rfl (bS rfl T.no_range (aI (pv 3) aG)) (λ _ _ _ _ _=>⟨(bq (i:=7) (show List.Nodup (["_law_script","_law_first","_law_cell","_law_many","_law_does","_law_habits_here","_law_loom_here","_law_k"]:List Str) from by decide +kernel) rfl (Or.inl rfl)),cP,aN⟩)) (aI (pv 5) (aI (cU i4 (ba b7 (ba cp (pv 1) aN) aN) aN (bD _)) aG))))))
   (aH (bh (aV (xu (K:=K) T) (hr.mono (by decide)) rfl T.mg_cg T.kp_cg T.b_cg .nil aK (aI (pv 6) (aI (aV (ip (K:=K) T) (hr.mono (by decide)) rfl T.mg_bd T.kp_bd T.b_bd .nil aK (aI (pv 0) (aI aN aG))) (aI (ba b7 (ba cp (pv 1) aN) aN) aG)))))
   (aJ (aR (pv 6))))))))))),?_⟩
  refine⟨_,rfl,a,ns,0,rfl,ha,by decide,λ c0 _=>⟨_,rfl,a,ns,2,rfl,ha,by decide,λ c2 _=>⟨_,rfl,_,_,rfl,rfl,by show (0:Int)<4;decide,_,_,rfl,rfl,?_⟩⟩⟩
  have x0:=CM c0 (b:=4) (by decide)
  have x1:=Cz c0 (b:=4) (by decide)
  refine⟨tab,[.int c2,.int (2+c0%4)],rfl,λ j i e=>?_,λ f H1 nf st tab1 clo=>?_⟩
  ·match j,e with
   | 0,e=>cases e;exact⟨_,rfl,rfl⟩
   | 1,e=>cases e;exact⟨_,rfl,rfl⟩
   | _+2,e=>cases e
  have ha1:SqL K H1 a (iV ns):=by
   have ne:∀ {u},H a=some u->(∀ ps,u≠.tbl ps)->a≠t.tb_cp:=λ{u} e nt z=>by
    obtain⟨ps,y⟩:=tab.get
    rw[z,y] at e;exact nt ps (Option.some.inj e).symm
   rcases ha with (h|⟨o,h⟩)|h
   ·exact .inl (.inl (st _ _ (ne h (λ ps z=>by cases z)) h))
   ·exact .inl (.inr ⟨o,st _ _ (ne h (λ ps z=>by cases z)) h⟩)
   ·exact .inr h
  obtain⟨m,hm⟩:∃ m:Nat,2+c0%4=(m:Int):=⟨(2+c0%4).toNat,by lia⟩
  rw[hm] at clo
  refine⟨_,rfl,a,ns,1,rfl,ha1,by decide,λ c1 ec1=>⟨_,rfl,c1,m,by show [V.int c1,V.int (2+c0%4)]=_;rw[hm],by lia,λ lh has hbs H2 s2 nlh elh len1 len2 ehb hab=>?_⟩⟩
  have ha2:=s2.seq ha1
  refine⟨_,rfl,_,rfl,2+c0%4,rfl,by lia,by lia,dZ (n:=(2+c0%4).toNat) (by lia) λ acc hacc=>⟨λ i σ2 ys H3=>ys=List.replicate i (V.int 0)/\H3 acc=some (.lst ys)/\aL H2 H3,⟨rfl,aD,aL.new hacc⟩,?_,?_,?_⟩⟩
  ·rintro i σ2 ys H3 hi ⟨rfl,_,_⟩
   rw[CK];exact Nat.le_refl _
  ·rintro i σ2 ys H3 hi ⟨rfl,e3,s3⟩
   dsimp only[cH,gY]
   refine dF ⟨e3,Nx.mk hi ⟨?_,aD,λ c u e=>?_⟩⟩
   ·rw[List.replicate_succ']
   ·rw[aE (aF e hacc)];exact s3 _ _ e
  ·rintro σ2 ys H3 ⟨rfl,e3,s3⟩
   have em:(2+c0%4).toNat=m:=by lia
   rw[em] at e3
   have ha3:=s3.seq ha2
   refine⟨_,rfl,_,rfl,_,_,rfl,rfl,⟨by decide,by decide⟩,_,_,rfl,rfl,by show (0:Int)<2;decide,rfl,λ x dx nx ndx nex=>?_⟩
   have s4:=aL.ins (o:=.ins t.c_Loom dx []) nx ndx
   refine⟨H3,x,dx,f,acc,lh,m,has,hbs,_,c2,rfl,aD,s4,nx,SqL.of (s4 _ _ e3),SqL.of (s4 _ _ (s3 _ _ elh)),len1,len2,λ i h' hb z1 z2=>(hab i h' hb z1 z2).same s3,clo.same λ b o u e=>s3 _ _ (s2 _ _ e),by lia,by lia,λ H5 L ep ow kp lo5=>⟨rfl,?_⟩⟩
   subst ep
   have ha5:SqL K H5 a (iV ns):=by
    have ne:∀ {u},H3 a=some u->a≠L.p:=λ{u} e=>aF e nx
    rcases ha3 with (h|⟨o,h⟩)|h
    ·exact .inl (.inl (kp _ _ (ne h) (s4 _ _ h)))
    ·exact .inl (.inr ⟨o,kp _ _ (ne h) (s4 _ _ h)⟩)
    ·exact .inr h
   have na:a∉L.own (pE m (decide (V.int (c0/4%2)=V.int 1)) c2 hbs)\/∀ H',SqL K H' a (iV ns):=by
    rcases ha3 with (h|⟨o,h⟩)|h
    ·refine .inl λ z=>?_
     rcases ow a z with y|y
     ·exact aF h nx y
     ·rw[s4 _ _ h] at y;cases y
    ·refine .inl λ z=>?_
     rcases ow a z with y|y
     ·exact aF h nx y
     ·rw[s4 _ _ h] at y;cases y
    ·exact .inr λ H'=>.inr h
   have y0:=CM (c0/8) (b:=31) (by decide)
   have y1:=Cz (c0/8) (b:=31) (by decide)
   refine⟨_,rfl,_,rfl,a,ns,3,rfl,ha5,by decide,λ c3 _=>⟨_,rfl,_,_,rfl,rfl,⟨by decide,by decide⟩,_,_,rfl,rfl,by show (0:Int)<31;decide,H3,L,_,c3,(c0/8%31).toNat,by show [V.ref L.p,V.int c3,V.int (c0/8%31)]=_;rw[Int.toNat_of_nonneg y0],lo5,by lia,λ G' H6 A' bt lo6 me=>⟨_,rfl,k G' H6 L A' _ (by lia) lo6 ?_ ?_⟩⟩⟩
   ·rcases na with z|z
    ·exact oW bt z ha5
    ·exact z H6
   ·rw[<- lo5.hb,me,<- ec1]
    show (hbs.map _).map _=gP c1 m
    rw[Cs,<- ehb]
    exact FO _
noncomputable def ze (t:Adr):Sp:=λ vs H Q _=>∃ p dx i ha dn wr d w0 ws,vs=[.ref p]/\H p=some (.ins t.c_Thread dx (thF i ha dn wr d))/\H wr=some (.lst (iV (w0::ws)))/\(∀ y∈w0::ws,0<=y/\y<=60)/\(w0::ws).length<=62/\0<=d/\d<=60 /\
 ∀ l ns H',aL H H'->H l=none->H' l=some (.lst (iV ns))->ns.Pairwise (· <= ·)->ns.Nodup->(∀ y,y∈ns↔(w0<=y/\y<=d)\/y∈w0::ws)->Q (.ref l) H'
theorem AR (T:Txt K mg t):bB P w K mg base (CXr P w) 1 t.f_ay t.fd_ay ["self"] (ze t):=by
 refine T.F_ay.okN uF (λ vs H Q E h=>?_) (λ a1 A outer s H vs Q E hr h=>?_)
 ·obtain⟨p,dx,i,ha,dn,wr,d,j,ws,rfl,_⟩:=h;rfl
 ·obtain⟨p,dx,i,ha,dn,wr,d,j,ws,rfl,V,hw,bw,lw,d0,d1,k⟩:=h
  refine⟨_,(aH (aW (i:=1) uF.nd rfl (Or.inl rfl) (bX (jf rfl) rfl T.no_list nB (aI (bX pK rfl T.no_range oS (aI (bb (aZ (K:=K)) (aO (K:=K) (pv 0) rfl) aN (λ _ _=>rfl)) (aI (ba da (aO (K:=K) (pv 0) rfl) aN) aG))) aG)))
   (aJ (aR (bP (nF rfl (P:=P) (w:=w)) rfl T.no_sorted iA (aI (ba (vD (P:=P) (w:=w)) (bX (jz rfl (K:=K) (P:=P) (w:=w)) rfl T.no_set vi (aI (pv 1) aG)) (bX (jz rfl (K:=K) (P:=P) (w:=w)) rfl T.no_set vi (aI (aO (K:=K) (pv 0) rfl) aG))) aG))))),?_⟩
  have b0:=bw j BR
  refine⟨_,rfl,p,_,dx,_,.ref wr,rfl,V,T.cl_Thread,T.na_ap,rfl,wr,_,0,.int j,rfl,rfl,SqL.of hw,b9,?_⟩
  refine⟨_,rfl,p,_,dx,_,.int d,rfl,V,T.cl_Thread,T.na_cb,rfl,_,_,rfl,rfl,_,_,rfl,λ r W=>?_⟩
  have s1:aL H _:=aL.new (o:=.rng j (d+1)) W
  refine⟨r,j,d+1,rfl,aD,⟨by lia,by lia,by lia,by lia⟩,by lia,λ l hl=>?_⟩
  have s2:=s1.trans (aL.new (o:=.lst (iV (gA j (d+1)))) hl)
  refine⟨_,rfl,l,gA j (d+1),rfl,SqL.of aD,by rw[eD];lia,λ a ka O a2 ma=>?_⟩
  have s3:=s2.trans (aL.new (o:=fb P w a ka) O)
  refine⟨_,rfl,p,_,dx,_,.ref wr,rfl,s3 _ _ V,T.cl_Thread,T.na_ap,rfl,wr,j::ws,rfl,SqL.of (s3 _ _ hw),by lia,λ b kb F a3 mb=>?_⟩
  have J:a≠b:=aF aD F
  have s4:=s3.trans (aL.new (o:=fb P w b kb) F)
  refine⟨a,b,ka,kb,gA 0 61,rfl,rfl,J,by rw[aE J,aD],aD,by rw[eD];decide,λ y Y=>?_,λ y Y=>?_,λ c kc U Z mc=>?_⟩
  ·have:=eT.mp ((ma y).mp Y);exact eT.mpr (by lia)
  ·have:=bw y ((mb y).mp Y);exact eT.mpr (by lia)
  have s5:=s4.trans (aL.new (o:=fb P w c kc) U)
  refine⟨c,kc,rfl,aD,λ e ns M pm so=>?_⟩
  refine k e ns _ (s5.trans (aL.new M)) ?_ aD so (pm.nodup_iff.mpr Z) λ y=>?_
  ·cases q:H e with
   | none=>rfl
   | some u=>rw[s5 _ _ q] at M;cases M
  ·rw[pm.mem_iff,mc,ma,mb,eT]
   constructor
   ·rintro(z|z)
    ·exact .inl (by lia)
    ·exact .inr z
   ·rintro(z|z)
    ·exact .inl (by lia)
    ·exact .inr z
noncomputable def zH (K:W.Frag) (t:Adr):Sp:=λ vs H Q _=>∃ G L A n,vs=[.ref L.p]/\Lo K t G H L A n/\∀ l H',aL H H'->H l=none->H' l=some (.lst (iV (A.ths.map λ T=>kU T.first T.evs T.evs.length)))->Q (.ref l) H'
theorem u0 (T:Txt K mg t):bB P w K mg base (CXr P w) 4 t.f_bt t.fd_bt ["self"] (zH K t):=by
 refine T.F_bt.okN zB (λ vs H Q E h=>?_) (λ a1 A outer s H vs Q E hr h=>?_)
 ·obtain⟨G,L,A,n,rfl,_⟩:=h;rfl
 ·obtain⟨G,L,A,n,rfl,lo,k⟩:=h
  refine⟨_,(aJ (aR (cC ["self","thread"] 1 rfl (cX (K:=K) (aO (K:=K) (pv 0) rfl)) (λ _ _ _ _ _=>⟨(bq (i:=1) (show List.Nodup (["self","thread"]:List Str) from by decide +kernel) rfl (Or.inl rfl)),cP,(bj (pv 1) T.cl_Thread T.me_al (vt (K:=K) T) (hr.mono (by decide)) T.b_al .nil aK (aI (aU (pv 1) T.cl_Thread T.me_bq (dq (K:=K) T) (hr.mono (by decide)) T.b_bq .nil aK) aG))⟩)))),?_⟩
  have m2:=lo.m2
  have Z:(L.ths.map λ q=>V.ref q.p).length=A.many:=by rw[BB,lo.c.len1]
  refine⟨_,rfl,L.p,_,L.dx,_,_,rfl,lo.c.self,T.cl_Loom,T.na_bj,rfl,L.lt,rfl,⟨_,SqL.of lo.c.tl⟩,dk (xs:=L.ths.map λ q=>V.ref q.p) (by lia) λ acc F=>⟨λ i M ys H2=>ys=iV ((A.ths.take i).map λ T=>kU T.first T.evs T.evs.length)/\H2 acc=some (.lst ys)/\aL H H2/\∃ o,M=[some (.ref L.p),o],⟨rfl,aD,aL.new F,_,rfl⟩,?_,?_,?_⟩⟩
  ·rintro i M ys H2 hi ⟨rfl,_,j,_⟩
   refine⟨SqL.of (j _ _ lo.c.tl),?_⟩
   unfold iV
   rw[BB,BB,CB];lia
  ·rintro i v M ys H2 hi U ⟨rfl,W,j,o,rfl⟩
   obtain⟨q,hq,rfl⟩:∃ q,L.ths[i]? = some q/\v=.ref q.p:=by
    rw[BC] at U
    cases e:L.ths[i]? with
    | none=>rw[e] at U;cases U
    | some q=>rw[e] at U;cases U;exact⟨q,rfl,rfl⟩
   obtain⟨O,Y⟩:∃ O,A.ths[i]? = some O:=⟨_,Bz (by rw[lo.c.len2];lia)⟩
   have th:=lo.c.th i q O hq Y
   have tw:=lo.tw O (BJ Y)
   obtain⟨es,hd,J⟩:=th.done
   obtain⟨w0,ws,ew⟩:=tw.ws
   have dn:=tw.dn
   dsimp only[cH,gY]
   refine dF ⟨_,rfl,q.p,q.dx,_,rfl,j _ _ th.self,rfl,_,rfl,q.p,q.dx,_,rfl,j _ _ th.self,rfl,q.p,q.dx,_,q.ha,q.dn,q.wr,_,es,rfl,j _ _ th.self,SqL.of (j _ _ hd),?_⟩
   refine⟨G,q.p,q.dx,_,q.ha,q.dn,q.wr,_,w0,ws,es,O.evs,_,rfl,th.held.trans j,j _ _ th.self,by rw[<- ew];exact j _ _ th.dR,j _ _ hd,J,λ z hz=>?_,by rw[J.1];exact dn,λ _=>⟨W,Nx.mk hi ⟨?_,aD,λ b u e=>?_,_,rfl⟩⟩,λ z=>absurd (.inl rfl) z⟩
   ·rw[J.1];exact tw.rg z (by rw[ew];exact hz)
   ·rw[Dq,Y,J.1]
    unfold iV
    simp
   ·rw[aE (aF e F)];exact j _ _ e
  ·rintro M ys H2 ⟨rfl,W,j,o,rfl⟩
   rw[Dt (by rw[Z,lo.c.len2];exact Nat.le_refl _)] at W
   exact k acc H2 j F W
noncomputable def qb (T:ThA) (ns:List Int):Prop:=ns.Pairwise (· < ·)/\∀ y,y∈ns↔(0<=y/\y<=T.down)\/y∈T.ws
noncomputable def uZ (K:W.Frag) (t:Adr):Sp:=λ vs H Q _=>∃ G L A n,∃ j:Nat,∃ T,vs=[.ref L.p,.int j]/\Lo K t G H L A n/\n<=30/\A.ths[j]? = some T/\∀ l ns H',aL H H'->H l=none->H' l=some (.lst (iV ns))->qb T ns->Q (.ref l) H'
theorem rf (T:Txt K mg t):bB P w K mg base (CXr P w) 3 t.f_bu t.fd_bu ["self","hand"] (uZ K t):=by
 refine T.F_bu.okN zS (λ vs H Q E h=>?_) (λ a1 A outer s H vs Q E Z h=>?_)
 ·obtain⟨G,L,A,n,j,M,rfl,_⟩:=h;rfl
 ·obtain⟨G,L,A,n,j,M,rfl,lo,hn,O,k⟩:=h
  refine⟨_,(aH (bh (bj (pv 0) T.cl_Loom T.me_am (nU (K:=K) T) (Z.mono (by decide)) T.b_am .nil aK (aI (pv 1) aG)))
   (aJ (aR (aU (bb (aZ (K:=K)) (aO (K:=K) (pv 0) rfl) (pv 1) (λ _ _=>rfl)) T.cl_Thread T.me_ay (AR (K:=K) T) (Z.mono (by decide)) T.b_ay .nil aK)))),?_⟩
  have hj:j<A.many:=by have:=(BE.mp O).1;rw[lo.c.len2] at this;exact this
  obtain⟨q,Y⟩:∃ q,L.ths[j]? = some q:=⟨_,Bz (by rw[lo.c.len1];exact hj)⟩
  have th:=lo.c.th j q M Y O
  have F:=lo.tw M (BJ O)
  obtain⟨w0,ws,J⟩:=F.ws
  have e0:w0=0:=by have:=F.w0;rw[J] at this;exact Option.some.inj this
  have U:(L.ths.map λ q=>V.ref q.p)[j]? = some (.ref q.p):=by rw[BC,Y];rfl
  have en:=F.en
  have dn:=F.dn
  have wn:=F.wn
  rw[J] at wn
  refine⟨_,rfl,L.p,L.dx,_,rfl,lo.c.self,rfl,_,rfl,L.p,L.dx,L.dz,A.many,A.ord,L.lt,L.lg,L.D,j,rfl,lo.c.self,by lia,by lia,?_⟩
  refine⟨_,rfl,L.p,_,L.dx,_,_,rfl,lo.c.self,T.cl_Loom,T.na_bj,rfl,_,rfl,L.lt,_,j,.ref q.p,rfl,rfl,SqL.of lo.c.tl,cM U,q.p,q.dx,_,rfl,th.self,rfl,?_⟩
  refine⟨q.p,q.dx,_,q.ha,q.dn,q.wr,_,w0,ws,rfl,th.self,by rw[<- J];exact th.dR,λ y hy=>?_,by lia,F.d0,by lia,λ l ns H' s nl el pw nd W=>k l ns H' s nl el ⟨(pw.and nd).imp λ h=>by lia,λ y=>?_⟩⟩
  ·have:=F.rg y (by rw[J];exact hy)
   lia
  ·rw[W,J,e0]
noncomputable def mI (H:Hp) (x:V):V:=match x with
 | .ref e=>match H e with
  | some (.tup (r::_))=>r
  | _=>.non
 | _=>.non
theorem gc (h:H e=some (.tup (r::rs))):mI H (.ref e)=r:=by
 show (match H e with|some (.tup (r::_))=>r|_=>.non)=r
 rw[h]
theorem jK {H H':Hp}{xs:List V}(s:aL H H') (h:∀ x∈xs,mT H x):xs.map (mI H')=xs.map (mI H):=Cr λ x q=>by
 obtain⟨e,r,F,rfl,j,_⟩:=h x q
 rw[gc j,gc (s _ _ j)]
noncomputable def xy (K:W.Frag) (t:Adr):Sp:=λ vs H Q _=>∃ G L A n xs,vs=[.ref L.p]/\Lo K t G H L A n/\n<=30/\H L.lg=some (.lst xs)/\∀ l H',aL H H'->H l=none->H' l=some (.lst (xs.map (mI H)))->Q (.ref l) H'
theorem vw (T:Txt K mg t):bB P w K mg base (CXr P w) 1 t.f_cq t.fd_cq ["self"] (xy K t):=by
 refine T.F_cq.okN z0 (λ vs H Q E h=>?_) (λ W A outer s H vs Q E hr h=>?_)
 ·obtain⟨G,L,A,n,xs,rfl,_⟩:=h;rfl
 ·obtain⟨G,L,A,n,xs,rfl,lo,Z,M,k⟩:=h
  refine⟨_,(aJ (aR (cC ["self","entry"] 1 rfl (cX (K:=K) (aO (K:=K) (pv 0) rfl)) (λ _ _ _ _ _=>⟨(bq (i:=1) (show List.Nodup (["self","entry"]:List Str) from by decide +kernel) rfl (Or.inl rfl)),cP,(bb (bz (K:=K)) (pv 1) aN (λ _ _=>rfl))⟩)))),?_⟩
  have Y:xs.length<=30:=by
   obtain⟨ys,V,le⟩:=lo.lg
   rw[M] at V;cases V;lia
  refine⟨_,rfl,L.p,_,L.dx,_,_,rfl,lo.c.self,T.cl_Loom,T.na_cy,rfl,L.lg,rfl,⟨_,SqL.of M⟩,dk (xs:=xs) (by lia) λ acc j=>⟨λ i q ys H2=>ys=(xs.take i).map (mI H)/\H2 acc=some (.lst ys)/\aL H H2/\∃ o,q=[some (.ref L.p),o],⟨rfl,aD,aL.new j,_,rfl⟩,?_,?_,?_⟩⟩
  ·rintro i q ys H2 hi ⟨rfl,_,F,_⟩
   refine⟨SqL.of (F _ _ M),?_⟩
   rw[BB,CB];lia
  ·rintro i v q ys H2 hi U ⟨rfl,J,F,o,rfl⟩
   obtain⟨e,r,pl,rfl,O,_⟩:=lo.lr xs M v (BJ U)
   dsimp only[cH,gY]
   refine dF ⟨_,rfl,e,_,0,.ref r,rfl,rfl,SqT.of (F _ _ O),rfl,J,Nx.mk hi ⟨?_,aD,λ b u z=>?_,_,rfl⟩⟩
   ·rw[Dq,U,B7]
    show _=_++[mI H (.ref e)]
    rw[gc O]
   ·rw[aE (aF z j)];exact F _ _ z
  ·rintro q ys H2 ⟨rfl,J,F,o,rfl⟩
   rw[Eu] at J
   exact k acc H2 F j J
noncomputable def AlO (T:ThA) (st:Bool) (ns:List Int):Prop:=ns.Pairwise (· < ·)/\∀ y,y∈ns↔((0<=y/\y<=T.down)\/y∈T.ws)\/(st=true/\y=T.evs.length)
structure Lls (H:Hp) (l:Addr) (qs:List Addr) (xss:List (List Int)):Prop where
 self:H l=some (.lst (qs.map V.ref))
 len:qs.length=xss.length
 nd:qs.Nodup
 ne:l∉qs
 at':∀ (i:Nat) q xs,qs[i]? = some q->xss[i]? = some xs->H q=some (.lst (iV xs))
theorem eO:atI (xs++[x]) (-1)=some x:=by
 unfold atI ixN
 rw[BI (by decide),BN (by rw[BL,B3];lia)]
 show (xs++[x])[((-1:Int)+((xs++[x]).length:Int)).toNat]? = some x
 rw[show ((-1:Int)+((xs++[x]).length:Int)).toNat=xs.length by rw[BL,B3];lia]
 rw[B5 (Nat.le_refl _),CV];rfl
theorem cV:iV (xs++[x])=iV xs++[.int x]:=by unfold iV;rw[B7];rfl
theorem dh (h:xs≠[]):∃ ys y,xs=ys++[y]:=⟨_,_,(List.dropLast_concat_getLast h).symm⟩
theorem oB:∀ {ns:List Int}{a b:Int},ns.Pairwise (· < ·)->(∀ z∈ns,a<=z/\z<b)->(ns.length:Int)<=max 0 (b-a)
 | [],_,_,_,_=>by simp;lia
 | x::ns,a,b,p,h=>by
  have q:=DR.mp p
  have F:=h x BR
  have:=oB (a:=x+1) (b:=b) q.2 λ z j=>⟨by have:=q.1 z j;lia,(h z (BQ _ j)).2⟩
  rw[Ci];lia
theorem Lls.snoc (h:Lls H l j xss) (hs:H' l=some (.lst ((j++[q]).map V.ref))) (M:H' q=some (.lst (iV xs))) (W:q∉j) (U:l≠q) (O:∀ c∈j,∀ u,H c=some u->H' c=some u):Lls H' l (j++[q]) (xss++[xs]):=by
 refine⟨hs,by rw[BL,BL,h.len];rfl,Cq.mpr ⟨h.nd,(by simp),λ a J b F z=>?_⟩,λ z=>?_,λ i c ys h1 h2=>?_⟩
 ·rw[BD] at F
  exact W (by rw[<- F,<- z];exact J)
 ·rcases BH.mp z with z|z
  ·exact h.ne z
  ·exact U (BD.mp z)
 ·rcases DY i j.length with g|g|g
  ·rw[Cn g] at h1
   rw[Cn (by rw[<- h.len];exact g)] at h2
   exact O c (BJ h1) _ (h.at' i c ys h1 h2)
  ·rw[B5 (by lia),g,CV] at h1
   rw[B5 (by rw[<- h.len];lia),<- h.len,g,CV] at h2
   cases h1;cases h2;exact M
  ·rw[Cv (by rw[BL,B3];lia)] at h1;cases h1
theorem AlO.top (j:TWf n T) (p:qb T ns):∃ (ys:List Int) (y:Int),ns=ys++[y]/\y<=T.evs.length/\(∀ z∈ys,z<y):=by
 have:ns≠[]:=λ z=>by
  have h0:(0:Int)∈ns:=(p.2 0).mpr (.inl ⟨CS _,j.d0⟩)
  rw[z] at h0;cases h0
 obtain⟨ys,y,rfl⟩:=dh this
 refine⟨ys,y,rfl,?_,λ z q=>(Co.mp p.1).2.2 z q y (by simp)⟩
 rcases (p.2 y).mp (by simp) with h|h
 ·exact Int.le_trans h.2 j.dn
 ·exact(j.rg y h).2
noncomputable def yp (K:W.Frag) (t:Adr):Sp:=λ vs H Q _=>∃ G L A n f fs,vs=[.ref L.p,.ref f]/\Lo K t G H L A n/\n<=30/\SqL K H f (iV fs) /\
 ∀ l qs xss H',aL H H'->H l=none->(∀ q∈qs,H q=none)->Lls H' l qs xss->xss.length=A.many->(∀ (i:Nat) T xs,A.ths[i]? = some T->xss[i]? = some xs->AlO T (decide ((i:Int)∉fs)) xs)->Q (.ref l) H'
theorem yl (T:Txt K mg t):bB P w K mg base (CXr P w) 4 t.f_au t.fd_au ["loom","fallen"] (yp K t):=by
 refine T.F_au.okN lK (λ vs H Q E h=>?_) (λ ar A outer s H vs Q E hr h=>?_)
 ·obtain⟨G,L,A,n,f,fs,rfl,_⟩:=h;rfl
 ·obtain⟨G,L,A,n,f,fs,rfl,lo,hn,hf,k⟩:=h
  refine⟨_,(aH (aW (i:=2) lK.nd rfl (Or.inl rfl) (cG aG))
   (aH (cZ PassesOwn.never rfl (ki (K:=K) rfl T.no_enumerate (aI (aU (pv 0) T.cl_Loom T.me_br (vf (K:=K) T) (hr.mono (by decide)) T.b_br .nil aK) aG)) (ig (K:=K) rfl (cW (bq (i:=3) lK.nd rfl (Or.inl rfl)) (cW (bq (i:=4) lK.nd rfl (Or.inl rfl)) hU)))
    (aH (aW (i:=5) lK.nd rfl (Or.inl rfl) (bj (pv 0) T.cl_Loom T.me_bu (rf (K:=K) T) (hr.mono (by decide)) T.b_bu .nil aK (aI (pv 3) aG)))
   (aH (bQ (PW.pt (nj (bA (gK (K:=K)) (pv 3) (pv 1) (by with_unfolding_all rfl)) (kL (bA rN (bb (aZ (K:=K)) (pv 5) (oA kN aN) (λ _ _=>rfl)) (pv 4) (bD _)))))
    (aJ (bh (cF (K:=K) Cc Cm Ck bM (pv 5) (aI (pv 4) aG))))
    bu)
   (aJ (bh (cF (K:=K) Cc Cm Ck bM (pv 2) (aI (pv 5) aG)))))))
   (aJ (aR (pv 2))))),?_⟩
  refine sq λ ao ak=>?_
  have m2:=lo.m2
  refine⟨by decide,λ Z aa=>?_⟩
  have s1:=aL.new (o:=.lst []) aa
  have e1:=aD (H:=H) (a:=Z) (o:=.lst [])
  generalize upd H Z (.lst [])=H1 at s1 e1 ⊢
  refine(sn ak λ au am=>?_:ao _ _ _)
  refine⟨_,rfl,L.p,L.dx,_,rfl,(lo.same s1).c.self,rfl,G,L,A,n,rfl,lo.same s1,λ lp H2 s2 af ab=>?_⟩
  have an:Z≠lp:=λ z=>by rw[<- z,e1] at af;cases af
  have a6:(iV (A.ths.map λ T=>(T.evs.length:Int))).length=A.many:=by unfold iV;rw[BB,BB,lo.c.len2]
  refine⟨lp,_,rfl,SqL.of ab,jb (xs:=iV (A.ths.map λ T=>(T.evs.length:Int)))
   (λ i σ H'=>∃ O F,O.length=i/\Lls H' Z O F/\aL H H'/\H' lp=some (.lst (iV (A.ths.map λ T=>(T.evs.length:Int))))/\(∀ q∈O,H q=none/\q≠lp)/\(∀ (j:Nat) T xs,A.ths[j]? = some T->F[j]? = some xs->AlO T (decide ((j:Int)∉fs)) xs)/\∃ o3 o4 o5,σ=[some (.ref L.p),some (.ref f),some (.ref Z),o3,o4,o5])
   ⟨[],[],rfl,⟨s2 _ _ e1,rfl,.nil,(by simp),(λ i q xs e=>by simp at e)⟩,s1.trans s2,ab,(λ q hq=>by cases hq),(λ j T xs _ e=>by simp at e),_,_,_,rfl⟩ ?_ ?_ ?_⟩
  ·rintro i σ H' _ ⟨O,F,_,_,_,e,_⟩
   exact SqL.of e
  ·rintro i x p σ H3 hx np ⟨O,F,a3,ls,s3,a2,fr,a7,o3,o4,o5,rfl⟩
   have hi:i<A.many:=by have:=(BE.mp hx).1;rw[a6] at this;exact this
   obtain⟨Y,hT⟩:∃ Y,A.ths[i]? = some Y:=⟨_,Bz (by rw[lo.c.len2];exact hi)⟩
   obtain rfl:x=.int Y.evs.length:=by
    unfold iV at hx
    rw[BC,BC,hT] at hx
    exact(Option.some.inj hx).symm
   have tw:=lo.tw Y (BJ hT)
   have s4:=aL.new (o:=.tup [.int i,.int Y.evs.length]) np
   have a4:=s3.trans s4
   refine⟨p,_,rfl,SqT.of aD,rfl,_,_,rfl,_,_,rfl,rfl,?_⟩
   generalize upd H3 p (.tup [.int i,.int Y.evs.length])=H4 at s4 a4 ⊢
   have ad:=lo.same a4
   refine⟨_,rfl,L.p,L.dx,_,rfl,ad.c.self,rfl,_,rfl,G,L,A,n,i,Y,rfl,ad,hn,hT,λ M ns H5 s5 ag a1 po=>?_⟩
   have aj:=s4.trans s5
   have ai:=a4.trans s5
   obtain⟨ys,y,ey,av,ap⟩:=AlO.top tw po
   have ae:H M=none:=a4.free ag
   have J:H3 M=none:=s4.free ag
   have ah:M∉O:=λ z=>by
    obtain⟨j,hj,e⟩:=B2 z
    have:=ls.at' j M _ (by rw[<- e];exact Bz hj) (Bz (by rw[<- ls.len];exact hj))
    rw[J] at this;cases this
   have W:Z≠M:=λ z=>by rw[<- z,ls.self] at J;cases J
   have a5:M≠lp:=λ z=>by rw[z,a2] at J;cases J
   have a9:∀ (H6:Hp) (xs:List Int),(∀ c u,c≠M->H5 c=some u->H6 c=some u)->H6 M=some (.lst (iV xs))->AlO Y (decide ((i:Int)∉fs)) xs ->
     ∃ l U y',V.ref Z=.ref l/\[V.ref M]=[y']/\H6 l=some (.lst U)/\U.length<sizeLine /\
      ∃ O F,O.length=i+1/\Lls (upd H6 l (.lst (U++[y']))) Z O F/\aL H (upd H6 l (.lst (U++[y'])))/\upd H6 l (.lst (U++[y'])) lp=some (.lst (iV (A.ths.map λ T=>(T.evs.length:Int))))/\(∀ q∈O,H q=none/\q≠lp)/\(∀ (j:Nat) T xs,A.ths[j]? = some T->F[j]? = some xs->AlO T (decide ((j:Int)∉fs)) xs) /\
       ∃ o3 o4 o5,([some (.ref L.p),some (.ref f),some (.ref Z),some (.int i),some (.int Y.evs.length),some (.ref M)]:St)=[some (.ref L.p),some (.ref f),some (.ref Z),o3,o4,o5]:=λ H6 xs kp e6 ok=>by
    have k6:∀ c u,c≠M->H3 c=some u->H6 c=some u:=λ c u nc e=>kp c u nc (aj _ _ e)
    refine⟨Z,O.map V.ref,.ref M,rfl,rfl,k6 _ _ W ls.self,CQ (show (O.map V.ref).length<=5 by rw[BB];lia) (by decide),O++[M],F++[xs],by rw[BL,a3];rfl,?_,λ c u e=>?_,?_,λ q hq=>?_,λ j T U h1 h2=>?_,_,_,_,rfl⟩
    ·refine ls.snoc (by rw[aD,B7];rfl) (by rw[aE (Ne.symm W)];exact e6) ah W λ c hc u e=>?_
     rw[aE (λ z=>ls.ne (by rw[<- z];exact hc))]
     exact k6 c u (λ z=>ah (by rw[<- z];exact hc)) e
    ·rw[aE (aF e aa)]
     exact kp c u (aF e ae) (ai _ _ e)
    ·rw[aE (Ne.symm an)]
     exact k6 _ _ (Ne.symm a5) a2
    ·rcases BH.mp hq with hq|hq
     ·exact fr q hq
     ·rw[BD] at hq
      rw[hq];exact⟨ae,a5⟩
    ·have lx:F.length=i:=by rw[<- ls.len,a3]
     rcases DY j i with g|g|g
     ·rw[Cn (by lia)] at h2
      exact a7 j T U h1 h2
     ·rw[B5 (by lia),g,lx,CV] at h2
      cases h2
      rw[g,hT] at h1;cases h1
      rw[g];exact ok
     ·rw[Cv (by rw[BL,B3];lia)] at h2;cases h2
   have fl:(iV fs).all dM=true:=by unfold iV;rw[EH];exact Dy.mpr λ _ _=>rfl
   have a8:∀ H6:Hp,(∀ c u,c≠M->H5 c=some u->H6 c=some u)->SqL K H6 Z (O.map V.ref):=λ H6 kp=>SqL.of (kp _ _ W (aj _ _ ls.self))
   have aq:ns.length<=900:=by
    have:∀ z∈ns,0<=z/\z<31:=λ z hz=>by
     have en:=tw.en
     rcases (po.2 z).mp hz with h|h
     ·have:=tw.dn;lia
     ·have:=tw.rg z h;lia
    have:=oB po.1 this
    lia
   rw[ey] at a1
   refine⟨_,rfl,_,rfl,f,iV fs,rfl,.inl (ai.seq hf),rfl,fl,_,rfl,eC (λ z=>?_) λ z=>?_⟩
   ·rw[BN rfl,fL] at z
    have z':(i:Int)∉fs:=by simpa using z
    refine⟨_,rfl,1,rfl,M,_,-1,.int y,rfl,rfl,SqL.of a1,by rw[cV];exact eO,_,rfl,rfl,_,rfl,eC (λ z2=>?_) λ z2=>?_⟩
    ·have z3:y≠Y.evs.length:=by simpa using z2
     refine⟨_,rfl,.inl ⟨rfl,_,SqL.of a1⟩,_,rfl,M,_,.int Y.evs.length,rfl,rfl,a1,bg (by rw[<- ey];unfold iV;rw[BB];lia),?_⟩
     refine⟨_,rfl,.inl ⟨rfl,_,a8 _ λ c u nc e=>by rw[aE nc];exact e⟩,_,rfl,a9 _ (ns++[(Y.evs.length:Int)]) (λ c u nc e=>by rw[aE nc];exact e) (by rw[aD,cV (xs:=ns),ey]) ⟨?_,λ v=>?_⟩⟩
     ·refine Co.mpr ⟨po.1,by simp,λ a ha b hb=>?_⟩
      rw[BD] at hb
      rw[ey] at ha
      rcases BH.mp ha with ha|ha
      ·have:=ap a ha;lia
      ·rw[BD] at ha;lia
     ·rw[BH,BD,po.2,Cu z'];simp
    ·have z3:y=Y.evs.length:=by simpa using z2
     refine⟨_,rfl,.inl ⟨rfl,_,a8 _ λ c u nc e=>e⟩,_,rfl,a9 _ ns (λ c u nc e=>e) (by rw[ey];exact a1) ⟨po.1,λ v=>?_⟩⟩
     rw[Cu z']
     constructor
     ·exact λ h=>.inl ((po.2 v).mp h)
     ·rintro(h|⟨_,h⟩)
      ·exact(po.2 v).mpr h
      ·rw[h,<- z3,ey];simp
   ·rw[BN rfl,fL] at z
    have z':¬ (i:Int)∉fs:=by simpa using z
    refine cj rfl ⟨_,rfl,.inl ⟨rfl,_,a8 _ λ c u nc e=>e⟩,_,rfl,a9 _ ns (λ c u nc e=>e) (by rw[ey];exact a1) ⟨po.1,λ v=>?_⟩⟩
    rw[CL z',po.2];simp
  ·rintro σ H3 ⟨O,F,a3,ls,s3,a2,fr,a7,o3,o4,o5,rfl⟩
   subst am
   exact⟨_,rfl,k Z O F H3 s3 aa (λ q hq=>(fr q hq).1) ls (by rw[<- ls.len,a3,a6]) a7⟩
structure DeL where
 (d dx po ta al:Addr)
 qs:List Addr
noncomputable def deF (po ta al:Addr):List (Str×V):=[("posted",.ref po),("taken",.ref ta),("allowed",.ref al)]
structure De (t:Adr) (H:Hp) (D:DeL) (A:DiA) (xss:List (List Int)):Prop where
 self:H D.d=some (.ins t.c_Descent D.dx (deF D.po D.ta D.al))
 po:H D.po=some (.dT (A.po.map λ l=>(nk l.nm,V.ref l.adr)))
 ta:H D.ta=some (.dT (A.ta.map λ e=>(nk e.1,V.int e.2)))
 lls:Lls H D.al D.qs xss
 lets:∀ l∈A.po,H l.adr=some (.tup [.int l.to,.int l.wd])
theorem Lls.same (h:Lls H l qs xss) (s:aL H H'):Lls H' l qs xss:=⟨s _ _ h.self,h.len,h.nd,h.ne,λ i q xs a b=>s _ _ (h.at' i q xs a b)⟩
theorem De.same (h:De t H D A xss) (s:aL H H'):De t H' D A xss:=⟨s _ _ h.self,s _ _ h.po,s _ _ h.ta,h.lls.same s,λ l j=>s _ _ (h.lets l j)⟩
noncomputable def w9 (K:W.Frag) (t:Adr):Sp:=λ vs H Q _=>∃ H0 G L A n f fs d dx,vs=[.ref d,.ref L.p,.ref f]/\aL H0 H/\H0 d=none/\H d=some (.ins t.c_Descent dx [])/\Lo K t G H0 L A n/\n<=30/\SqL K H0 f (iV fs) /\
 ∀ D xss H',D.d=d->aL H0 H'->(∀ b∈D.qs,H0 b=none)->De t H' D A.A xss->xss.length=A.many->(∀ (i:Nat) T xs,A.ths[i]? = some T->xss[i]? = some xs->AlO T (decide ((i:Int)∉fs)) xs)->Q .non H'
theorem zL (T:Txt K mg t):bB P w K mg base (CXr P w) 5 t.f_bf t.fd_bf ["self","loom","fallen"] (w9 K t):=by
 refine T.F_bf.okN yS (λ vs H Q E h=>?_) (λ ab A outer s H vs Q E hr h=>?_)
 ·obtain⟨H0,G,L,A,n,f,fs,d,dx,rfl,_⟩:=h;rfl
 ·obtain⟨H0,G,L,A,n,f,fs,d,dx,rfl,s0,nd,hd,lo,hn,hf,k⟩:=h
  refine⟨_,(aH (bH (K:=K) (pv 0) (aU (pv 1) T.cl_Loom T.me_ag (uQ (K:=K) T) (hr.mono (by decide)) T.b_ag .nil aK) rfl)
   (aH (bH (K:=K) (pv 0) (aU (pv 1) T.cl_Loom T.me_ah (uR (K:=K) T) (hr.mono (by decide)) T.b_ah .nil aK) rfl)
   (aJ (bH (K:=K) (pv 0) (aV (yl (K:=K) T) (hr.mono (by decide)) rfl T.mg_au T.kp_au T.b_au .nil aK (aI (pv 1) (aI (pv 2) aG))) rfl)))),?_⟩
  refine⟨_,rfl,L.p,L.dx,_,rfl,(lo.same s0).c.self,rfl,G,L,A,n,rfl,lo.same s0,hn,λ j H1 s1 a2 a5=>?_⟩
  have a7:=s1 _ _ hd
  have W:j≠d:=λ z=>by rw[z,hd] at a2;cases a2
  refine⟨_,rfl,d,_,dx,_,rfl,a7,T.cl_Descent,T.na_av,by decide,?_⟩
  have s2:aL H0 (upd H1 d (.ins t.c_Descent dx (aP "posted" (.ref j) []))):=λ c u e=>by
   rw[aE (aF e nd)];exact s1 _ _ (s0 _ _ e)
  have U:=aD (H:=H1) (a:=d) (o:=.ins t.c_Descent dx (aP "posted" (.ref j) []))
  have J:upd H1 d (.ins t.c_Descent dx (aP "posted" (.ref j) [])) j=some (.dT (A.A.po.map λ l=>(nk l.nm,V.ref l.adr))):=by rw[aE W];exact a5
  generalize upd H1 d (.ins t.c_Descent dx (aP "posted" (.ref j) []))=H2 at s2 U J ⊢
  refine⟨_,rfl,L.p,L.dx,_,rfl,(lo.same s2).c.self,rfl,G,L,A,n,rfl,lo.same s2,hn,λ ta Y s3 a3 a6=>?_⟩
  have a4:ta≠d:=λ z=>by rw[z,U] at a3;cases a3
  refine⟨_,rfl,d,_,dx,_,rfl,s3 _ _ U,T.cl_Descent,T.na_ba,by show 1<1000;decide,?_⟩
  have s4:aL H0 (upd Y d (.ins t.c_Descent dx (aP "taken" (.ref ta) (aP "posted" (.ref j) [])))):=λ c u e=>by
   rw[aE (aF e nd)];exact s3 _ _ (s2 _ _ e)
  have F:=aD (H:=Y) (a:=d) (o:=.ins t.c_Descent dx (aP "taken" (.ref ta) (aP "posted" (.ref j) [])))
  have M:upd Y d (.ins t.c_Descent dx (aP "taken" (.ref ta) (aP "posted" (.ref j) []))) j=some (.dT (A.A.po.map λ l=>(nk l.nm,V.ref l.adr))):=by rw[aE W];exact s3 _ _ J
  have O:upd Y d (.ins t.c_Descent dx (aP "taken" (.ref ta) (aP "posted" (.ref j) []))) ta=some (.dT (A.A.ta.map λ e=>(nk e.1,V.int e.2))):=by rw[aE a4];exact a6
  generalize upd Y d (.ins t.c_Descent dx (aP "taken" (.ref ta) (aP "posted" (.ref j) [])))=H4 at s4 F M O ⊢
  refine⟨_,rfl,_,rfl,G,L,A,n,f,fs,rfl,lo.same s4,hn,s4.seq hf,λ al qs aa H5 s5 a1 fr Z lx ok=>?_⟩
  have a8:al≠d:=λ z=>by rw[z,F] at a1;cases a1
  have a9:∀ q∈qs,q≠d:=λ q hq z=>by have:=fr q hq;rw[z,F] at this;cases this
  refine⟨_,rfl,d,_,dx,_,rfl,s5 _ _ F,T.cl_Descent,T.na_ao,by show 2<1000;decide,?_⟩
  have s6:aL H0 (upd H5 d (.ins t.c_Descent dx (aP "allowed" (.ref al) (aP "taken" (.ref ta) (aP "posted" (.ref j) []))))):=λ c u e=>by
   rw[aE (aF e nd)];exact s5 _ _ (s4 _ _ e)
  refine k ⟨d,dx,j,ta,al,qs⟩ aa _ rfl s6 (λ b hb=>s4.free (fr b hb)) ⟨aD,?_,?_,⟨?_,Z.len,Z.nd,Z.ne,λ i q xs h1 h2=>?_⟩,λ l hl=>s6 _ _ (lo.c.held _ _ (lo.c.di.lets l hl))⟩ lx ok
  ·rw[aE W];exact s5 _ _ M
  ·rw[aE a4];exact s5 _ _ O
  ·rw[aE a8];exact Z.self
  ·rw[aE (a9 q (BJ h1))];exact Z.at' i q xs h1 h2
noncomputable def cq (xs:List Int):Int:=(xs.getLast?).getD 0
theorem gG:cq (ys++[y])=y:=by unfold cq;simp
noncomputable def xr (K:W.Frag) (t:Adr):Sp:=λ vs H Q _=>∃ D A xss,vs=[.ref D.d]/\De t H D A xss/\xss.length<=5/\(∀ xs∈xss,xs≠[])/\∀ l H',aL H H'->H l=none->H' l=some (.lst (iV (xss.map cq)))->Q (.ref l) H'
theorem oj (T:Txt K mg t):bB P w K mg base (CXr P w) 1 t.f_an t.fd_an ["self"] (xr K t):=by
 refine T.F_an.okN AU (λ vs H Q E h=>?_) (λ a1 A outer s H vs Q E hr h=>?_)
 ·obtain⟨D,A,F,rfl,_⟩:=h;rfl
 ·obtain⟨D,A,F,rfl,de,a2,ne,k⟩:=h
  refine⟨_,(aJ (aR (cC ["self","points"] 1 rfl (cX (K:=K) (aO (K:=K) (pv 0) rfl)) (λ _ _ _ _ _=>⟨(bq (i:=1) (show List.Nodup (["self","points"]:List Str) from by decide +kernel) rfl (Or.inl rfl)),cP,(bb (aZ (K:=K)) (pv 1) (oA kN aN) (λ _ _=>rfl))⟩)))),?_⟩
  have Z:=de.lls
  have lq:(D.qs.map V.ref).length=F.length:=by rw[BB,Z.len]
  refine⟨_,rfl,D.d,_,D.dx,_,_,rfl,de.self,T.cl_Descent,T.na_ao,rfl,D.al,rfl,⟨_,SqL.of Z.self⟩,dk (xs:=D.qs.map V.ref) (by lia) λ acc j=>⟨λ i J ys H2=>ys=iV ((F.take i).map cq)/\H2 acc=some (.lst ys)/\aL H H2/\∃ o,J=[some (.ref D.d),o],⟨rfl,aD,aL.new j,_,rfl⟩,?_,?_,?_⟩⟩
  ·rintro i J ys H2 hi ⟨rfl,_,O,_⟩
   refine⟨SqL.of (O _ _ Z.self),?_⟩
   unfold iV
   rw[BB,BB,CB];lia
  ·rintro i v J ys H2 hi W ⟨rfl,Y,O,o,rfl⟩
   obtain⟨q,hq,rfl⟩:∃ q,D.qs[i]? = some q/\v=.ref q:=by
    rw[BC] at W
    cases e:D.qs[i]? with
    | none=>rw[e] at W;cases W
    | some q=>rw[e] at W;cases W;exact⟨q,rfl,rfl⟩
   obtain⟨xs,M⟩:∃ xs,F[i]? = some xs:=⟨_,Bz (by lia)⟩
   obtain⟨zs,z,ez⟩:=dh (ne xs (BJ M))
   have U:=O _ _ (Z.at' i q xs hq M)
   rw[ez,cV] at U
   dsimp only[cH,gY]
   refine dF ⟨_,rfl,1,rfl,q,_,-1,.int z,rfl,rfl,SqL.of U,eO,Y,Nx.mk hi ⟨?_,aD,λ b u e=>?_,_,rfl⟩⟩
   ·rw[Dq,M,ez]
    show _=iV (((F.take i)++[zs++[z]]).map cq)
    rw[B7,Ed,gG,cV]
   ·rw[aE (aF e j)];exact O _ _ e
  ·rintro J ys H2 ⟨rfl,Y,O,o,rfl⟩
   rw[Dt (by lia)] at Y
   exact k acc H2 O j Y
noncomputable def yq (K:W.Frag) (t:Adr):Sp:=λ vs H Q _=>∃ D A xss m c b e,vs=[.ref D.d,.ref b]/\De t H D A xss/\WfD m c A/\xss.length=m/\xss.length<=5/\(∀ xs∈xss,xs≠[])/\e∈A.ta/\H b=some (.tup (nV e.1)) /\
 ∀ H',aL H H'->Q (.bl (A.eE (xss.map cq) e && !dB (xss.map cq) e.1)) H'
theorem xv (T:Txt K mg t):bB P w K mg base (CXr P w) 3 t.f_ac t.fd_ac ["self","name"] (yq K t):=by
 refine T.F_ac.okN uD (λ vs H Q E h=>?_) (λ cdv A outer s H vs Q E hr h=>?_)
 ·obtain⟨D,A,xss,m,c,b,e,rfl,_⟩:=h;rfl
 ·obtain⟨D,A,xss,m,c,b,e,rfl,de,wf,lm,few,ne,he,hb,k⟩:=h
  refine⟨_,(aH (bQ (PW.pt (fP (cY (cI (aV (vd (K:=K) T) (hr.mono (by decide)) rfl T.mg_da T.kp_da T.b_da .nil aK (aI (pv 1) aG)))) (gB (iM (dP (cy hr) (pv 1) (aO (K:=K) (pv 0) rfl))))))
    (aJ (aR eZ))
    bu)
   (aH (aW (i:=2) uD.nd rfl (Or.inl rfl) (aU (pv 0) T.cl_Descent T.me_an (oj (K:=K) T) (hr.mono (by decide)) T.b_an .nil aK))
   (aJ (aR (kR (aV (zW (K:=K) T) (hr.mono (by decide)) rfl T.mg_as T.kp_as T.b_as .nil aK (aI (pv 2) (aI (bb (bz (K:=K)) (df (cy hr) (aO (K:=K) (pv 0) rfl) (pv 1) (λ _ _=>rfl)) aN (λ _ _=>rfl)) (aI (df (cy hr) (aO (K:=K) (pv 0) rfl) (pv 1) (λ _ _=>rfl)) aG)))) (iX (mM (aV (vk (K:=K) T) (hr.mono (by decide)) rfl T.mg_ar T.kp_ar T.b_ar .nil aK (aI (pv 2) (aI (pv 1) aG)))))))))),?_⟩
  obtain⟨l,hl,el,_⟩:=wf.tp e he
  have r:=wf.rg l hl
  have to:A.eM e.1=l.to:=by rw[<- el];exact gx wf.nd hl
  have v1:bL (A.po.map λ l=>(nk l.nm,V.ref l.adr)) (nk e.1)=some (.ref l.adr):=by rw[<- el];exact ck (λ l:cQ=>nk l.nm) (λ l=>V.ref l.adr) (cJ (f:=cQ.nm) cm wf.nd) hl
  have v2:bL (A.ta.map λ e=>(nk e.1,V.int e.2)) (nk e.1)=some (.int e.2):=ck (λ e:Nm3×Int=>nk e.1) (λ e=>V.int e.2) (cJ (f:=Prod.fst) cm wf.nt) he
  refine⟨_,rfl,b,e.1.1,e.1.2.1,e.1.2.2,rfl,hb,λ H1 s1=>⟨_,rfl,cj rfl ?_⟩⟩
  have hb1:=s1 _ _ hb
  refine⟨_,rfl,_,rfl,D.d,_,D.dx,_,_,rfl,s1 _ _ de.self,T.cl_Descent,T.na_ba,rfl,D.ta,_,rfl,.inr ⟨_,nk e.1,b,.inl (s1 _ _ de.ta),rfl,hb1,v2.symm⟩,_,rfl,cj rfl ?_⟩
  have de1:=de.same s1
  refine⟨_,rfl,D.d,D.dx,_,rfl,de1.self,rfl,D,A,xss,rfl,de1,few,ne,λ ln H2 s2 nl el2=>?_⟩
  have de2:=de1.same s2
  have hb2:=s2 _ _ hb1
  have ll:((xss.map cq).length:Int)=m:=by rw[BB];exact lm
  have rn:0<=e.1.1/\e.1.1<m:=by rw[<- el];exact⟨r.1,r.2.1⟩
  refine⟨_,rfl,_,rfl,D.d,_,D.dx,_,_,rfl,de2.self,T.cl_Descent,T.na_av,rfl,_,rfl,D.po,.ref l.adr,rfl,.inr ⟨_,nk e.1,b,.inl de2.po,rfl,hb2,v1.symm⟩,l.adr,_,0,.int l.to,rfl,rfl,SqT.of (de2.lets l hl),rfl,_,rfl,D.d,_,D.dx,_,_,rfl,de2.self,T.cl_Descent,T.na_ba,rfl,_,rfl,D.ta,_,rfl,.inr ⟨_,nk e.1,b,.inl de2.ta,rfl,hb2,v2.symm⟩,ln,xss.map cq,l.to,e.2,rfl,SqL.of el2,r.2.2.2.2.2.2.1,by rw[ll];exact r.2.2.2.2.2.2.2,_,rfl,eC (λ z=>⟨_,rfl,_,rfl,ln,b,xss.map cq,e.1,rfl,SqL.of el2,hb2,rn.1,by rw[ll];exact rn.2,_,rfl,?_⟩) λ z=>?_⟩
  ·have:=k H2 (s1.trans s2)
   unfold DiA.eE dB at this
   rw[to,z,Bool.true_and] at this
   exact this
  ·have:=k H2 (s1.trans s2)
   unfold DiA.eE at this
   rw[to,show decide (e.2<=bW (xss.map cq) l.to)=false by simpa using z,Bool.false_and] at this
   exact this
noncomputable def xa (K:W.Frag) (t:Adr):Sp:=λ vs H Q _=>∃ D A xss m c b e x0 xs,vs=[.ref D.d,.ref b]/\De t H D A xss/\WfD m c A/\e∈A.ta/\H b=some (.tup (nV e.1))/\xss[(A.eM e.1).toNat]? = some (x0::xs)/\Q (.bl (decide (x0<e.2))) H
theorem yN (T:Txt K mg t):bB P w K mg base (CXr P w) 1 t.f_ai t.fd_ai ["self","name"] (xa K t):=by
 refine T.F_ai.okN y6 (λ vs H Q E h=>?_) (λ cdv A outer s H vs Q E hr h=>?_)
 ·obtain⟨D,A,xss,m,c,b,e,x0,xs,rfl,_⟩:=h;rfl
 ·obtain⟨D,A,xss,m,c,b,e,x0,xs,rfl,de,wf,he,hb,hx,k⟩:=h
  refine⟨_,(aJ (aR (cU o9 (bb (aZ (K:=K)) (bb (aZ (K:=K)) (aO (K:=K) (pv 0) rfl) (bb (bz (K:=K)) (df (cy hr) (aO (K:=K) (pv 0) rfl) (pv 1) (λ _ _=>rfl)) aN (λ _ _=>rfl)) (λ _ _=>rfl)) aN (λ _ _=>rfl)) (df (cy hr) (aO (K:=K) (pv 0) rfl) (pv 1) (λ _ _=>rfl)) (bD _)))),?_⟩
  obtain⟨l,hl,el,_⟩:=wf.tp e he
  have r:=wf.rg l hl
  have to:A.eM e.1=l.to:=by rw[<- el];exact gx wf.nd hl
  have v1:bL (A.po.map λ l=>(nk l.nm,V.ref l.adr)) (nk e.1)=some (.ref l.adr):=by rw[<- el];exact ck (λ l:cQ=>nk l.nm) (λ l=>V.ref l.adr) (cJ (f:=cQ.nm) cm wf.nd) hl
  have v2:bL (A.ta.map λ e=>(nk e.1,V.int e.2)) (nk e.1)=some (.int e.2):=ck (λ e:Nm3×Int=>nk e.1) (λ e=>V.int e.2) (cJ (f:=Prod.fst) cm wf.nt) he
  rw[to] at hx
  obtain⟨q,hq⟩:∃ q,D.qs[l.to.toNat]? = some q:=⟨_,Bz (by rw[de.lls.len];exact(BE.mp hx).1)⟩
  have hq':=de.lls.at' _ q _ hq hx
  have atq:atI (D.qs.map V.ref) l.to=some (.ref q):=by
   obtain⟨i,hi⟩:=Cd r.2.2.2.2.2.2.1
   rw[hi] at hq ⊢
   refine cM ?_
   rw[BC]
   rw[Cg] at hq
   rw[hq];rfl
  exact⟨_,rfl,D.d,_,D.dx,_,_,rfl,de.self,T.cl_Descent,T.na_ao,rfl,_,rfl,D.d,_,D.dx,_,_,rfl,de.self,T.cl_Descent,T.na_av,rfl,_,rfl,D.po,.ref l.adr,rfl,.inr ⟨_,nk e.1,b,.inl de.po,rfl,hb,v1.symm⟩,l.adr,_,0,.int l.to,rfl,rfl,SqT.of (de.lets l hl),rfl,D.al,_,_,_,rfl,rfl,SqL.of de.lls.self,atq,q,_,0,.int x0,rfl,rfl,SqL.of hq',b9,_,rfl,D.d,_,D.dx,_,_,rfl,de.self,T.cl_Descent,T.na_ba,rfl,_,rfl,D.ta,_,rfl,.inr ⟨_,nk e.1,b,.inl de.ta,rfl,hb,v2.symm⟩,_,_,rfl,rfl,k⟩
noncomputable def yY (K:W.Frag) (t:Adr):Sp:=λ vs H Q _=>∃ D A xss m c b e x0 xs q,vs=[.ref D.d,.ref b]/\De t H D A xss/\WfD m c A/\e∈A.ta/\H b=some (.tup (nV e.1))/\xss[(A.eM e.1).toNat]? = some (x0::xs)/\D.qs[(A.eM e.1).toNat]? = some q/\(x0::xs).Pairwise (· < ·)/\x0<e.2 /\
 ∀ H',But [q] H H'->H' q=some (.lst (iV ((x0::xs).filter λ y=>decide (y<e.2))))->Q .non H'
theorem zE (T:Txt K mg t):bB P w K mg base (CXr P w) 1 t.f_bg t.fd_bg ["self","name"] (yY K t):=by
 refine T.F_bg.okN ux (λ vs H Q E h=>?_) (λ cdv A outer s H vs Q E hr h=>?_)
 ·obtain⟨D,A,xss,m,c,b,e,x0,xs,q,rfl,_⟩:=h;rfl
 ·obtain⟨D,A,xss,m,c,b,e,x0,xs,q,rfl,de,wf,he,hb,hx,hq,asc,lt,k⟩:=h
  refine⟨_,(aH (aW (i:=2) ux.nd rfl (Or.inl rfl) (bb (aZ (K:=K)) (aO (K:=K) (pv 0) rfl) (bb (bz (K:=K)) (df (cy hr) (aO (K:=K) (pv 0) rfl) (pv 1) (λ _ _=>rfl)) aN (λ _ _=>rfl)) (λ _ _=>rfl)))
   (aJ (lZ PassesOwn.never (bA oy (bb (aZ (K:=K)) (pv 2) (oA kN aN) (λ _ _=>rfl)) (df (cy hr) (aO (K:=K) (pv 0) rfl) (pv 1) (λ _ _=>rfl)) (bD _))
    (aJ (bh (nY (K:=K) Cc PySem.F.slot_list_pop PySem.F.type_list_pop q5 (pv 2))))))),?_⟩
  obtain⟨l,hl,el,_⟩:=wf.tp e he
  have r:=wf.rg l hl
  have to:A.eM e.1=l.to:=by rw[<- el];exact gx wf.nd hl
  have v1:bL (A.po.map λ l=>(nk l.nm,V.ref l.adr)) (nk e.1)=some (.ref l.adr):=by rw[<- el];exact ck (λ l:cQ=>nk l.nm) (λ l=>V.ref l.adr) (cJ (f:=cQ.nm) cm wf.nd) hl
  have v2:bL (A.ta.map λ e=>(nk e.1,V.int e.2)) (nk e.1)=some (.int e.2):=ck (λ e:Nm3×Int=>nk e.1) (λ e=>V.int e.2) (cJ (f:=Prod.fst) cm wf.nt) he
  have hq':=de.lls.at' _ q _ hq hx
  rw[to] at hx hq
  have atq:atI (D.qs.map V.ref) l.to=some (.ref q):=by
   obtain⟨i,hi⟩:=Cd r.2.2.2.2.2.2.1
   rw[hi] at hq ⊢
   refine cM ?_
   rw[BC]
   rw[Cg] at hq
   rw[hq];rfl
  refine⟨_,rfl,D.d,_,D.dx,_,_,rfl,de.self,T.cl_Descent,T.na_ao,rfl,_,rfl,D.d,_,D.dx,_,_,rfl,de.self,T.cl_Descent,T.na_av,rfl,_,rfl,D.po,.ref l.adr,rfl,.inr ⟨_,nk e.1,b,.inl de.po,rfl,hb,v1.symm⟩,l.adr,_,0,.int l.to,rfl,rfl,SqT.of (de.lets l hl),rfl,D.al,_,_,_,rfl,rfl,SqL.of de.lls.self,atq,?_⟩
  refine⟨λ m σ H'=>∃ ys zs,x0::xs=ys++zs/\(∀ z∈zs,e.2<=z)/\m=ys.length/\But [q] H H'/\H' q=some (.lst (iV ys))/\σ=[some (.ref D.d),some (.ref b),some (.ref q)],⟨_,x0::xs,[],by simp,(λ z hz=>by cases hz),rfl,(λ c u _ e=>e),hq',rfl⟩,?_⟩
  rintro m σ H' ⟨ys,zs,e1,big,rfl,bt,eq',rfl⟩
  have ny:ys≠[]:=λ z=>by
   rw[z,List.nil_append] at e1
   have:=big x0 (by rw[<- e1];exact BR)
   lia
  obtain⟨us,u,rfl⟩:=dh ny
  have kd:∀ c o,H c=some o->(∀ ys,o≠.lst ys)->H' c=some o:=λ c o h n=>bt c o (by rw[BD];exact λ z=>by rw[z,hq'] at h;exact n _ (Option.some.inj h).symm) h
  have sf:=kd _ _ de.self (λ _ z=>by cases z)
  have hb':=kd _ _ hb (λ _ z=>by cases z)
  have tk:=kd _ _ de.ta (λ _ z=>by cases z)
  refine⟨_,rfl,1,rfl,q,_,-1,.int u,rfl,rfl,SqL.of eq',by rw[cV];exact eO,_,rfl,D.d,_,D.dx,_,_,rfl,sf,T.cl_Descent,T.na_ba,rfl,_,rfl,D.ta,_,rfl,.inr ⟨_,nk e.1,b,.inl tk,rfl,hb',v2.symm⟩,_,_,rfl,rfl,_,rfl,eC (λ z=>?_) λ z=>?_⟩
  ·have z':e.2<=u:=CN z
   refine⟨λ σ2 H2=>∃ m',m'<(us++[u]).length/\∃ ys zs,x0::xs=ys++zs/\(∀ z∈zs,e.2<=z)/\m'=ys.length/\But [q] H H2/\H2 q=some (.lst (iV ys))/\σ2=[some (.ref D.d),some (.ref b),some (.ref q)],λ _ _ h=>h,?_⟩
   refine⟨_,rfl,.inl ⟨rfl,_,SqL.of eq'⟩,q,_,.int u,rfl,rfl,eq',?_,us.length,by rw[BL,B3];lia,us,u::zs,by rw[e1,CI];rfl,λ z hz=>?_,rfl,λ c o n h=>?_,?_,rfl⟩
   ·rw[cV,BL,B3,Nat.add_sub_cancel,B5 (Nat.le_refl _),CV];rfl
   ·rcases BF.mp hz with h|h
    ·rw[h];exact z'
    ·exact big z h
   ·rw[aE (by simpa using n)];exact bt c o n h
   ·rw[aD,cV,List.dropLast_concat]
  ·have z':u<e.2:=by have:¬ e.2<=u:=λ y=>z (Cu y);lia
   refine k H' bt ?_
   rw[eq',e1,EO]
   rw[e1] at asc
   have a1:=(Co.mp asc).1
   have f1:(us++[u]).filter (λ y=>decide (y<e.2))=us++[u]:=List.filter_eq_self.mpr λ y hy=>by
    rw[C0]
    rcases BH.mp hy with h|h
    ·have:=(Co.mp a1).2.2 y h u (by simp);lia
    ·rw[BD.mp h];exact z'
   have f2:zs.filter (λ y=>decide (y<e.2))=[]:=Fb.mpr λ y hy=>by
    have:=big y hy
    rw[C0];lia
   rw[f1,f2,Dr]
structure Lnm (H:Hp) (l:Addr) (qs:List Addr) (nss:List (List Nm3)):Prop where
 self:H l=some (.lst (qs.map V.ref))
 len:qs.length=nss.length
 nd:qs.Nodup
 ne:l∉qs
 at':∀ (i:Nat) q ns,qs[i]? = some q->nss[i]? = some ns->∃ ls,H q=some (.lst ls)/\NmL H ls ns
theorem Lnm.same (h:Lnm H l qs nss) (s:aL H H'):Lnm H' l qs nss:=⟨s _ _ h.self,h.len,h.nd,h.ne,λ i q xs a b=>let ⟨j,e,n⟩:=h.at' i q xs a b;⟨j,s _ _ e,n.same s⟩⟩
theorem tF {H:Hp}{es:List (Nm3×Int)}{bs:List Addr}(h:mW H (es.map λ e=>(nk e.1,V.int e.2)) bs):NmL H (bs.map V.ref) (es.map (·.1)):=by
 have j:∀ (i:Nat) b e,bs[i]? = some b->es[i]? = some e->eF H (.ref b) e.1:=λ i b e q F=>⟨b,rfl,h.2 i b (nk e.1) (V.int e.2) q (by rw[BC,F];rfl)⟩
 have O:bs.length=es.length:=by rw[h.1,BB]
 refine⟨DG λ i=>?_,λ v J=>?_⟩
 ·rw[Cs,BC,BC]
  by_cases M:i<bs.length
  ·have F:=Bz (l:=es) (i:=i) (by lia)
   have q:=Bz M
   rw[F,q]
   exact congrArg some (j i _ _ q F).of
  ·rw[Cv (by lia),Cv (by lia)];rfl
 ·obtain⟨b,q,rfl⟩:=BV.mp J
  obtain⟨i,hi,rfl⟩:=B2 q
  have:=j i _ _ (Bz hi) (Bz (l:=es) (i:=i) (by lia))
  rw[this.of];exact this
noncomputable def cL (m:Nat) (ns:List Nm3):List (List Nm3):=(List.range m).map λ h:Nat=>ns.filter λ n=>decide (n.1=(h:Int))
noncomputable def Aa (K:W.Frag) (t:Adr):Sp:=λ vs H Q _=>∃ G L A n,vs=[.ref L.p]/\Lo K t G H L A n/\n<=30/\∀ u us ns H',aL H H'->H u=none->(∀ q∈us,H q=none)->Lnm H' u us (cL A.many ns)->ky ns->ns.Perm (A.A.ta.map (·.1))->Q (.ref u) H'
theorem zP (T:Txt K mg t):bB P w K mg base (CXr P w) 2 t.f_bh t.fd_bh ["loom"] (Aa K t):=by
 refine T.F_bh.okN rG (λ vs H Q E h=>?_) (λ am A outer s H vs Q E hr h=>?_)
 ·obtain⟨G,L,A,n,rfl,_⟩:=h;rfl
 ·obtain⟨G,L,A,n,rfl,lo,hn,k⟩:=h
  refine⟨_,(aH (ji ["loom","used","name","hand"] 1 (i:=1) rfl rG.nd rfl (Or.inl rfl) (bS rfl T.no_range (aI (aO (K:=K) (pv 0) rfl) aG)) (λ _ _ _ _ _=>⟨(bq (i:=3) (show List.Nodup (["loom","used","name","hand"]:List Str) from by decide +kernel) rfl (Or.inl rfl)),cP,(cG aG)⟩))
   (aH (cZ PassesOwn.never rfl (cX (K:=K) (bP (mX rfl) rfl T.no_sorted iA (aI (aU (pv 0) T.cl_Loom T.me_ah (uR (K:=K) T) (hr.mono (by decide)) T.b_ah .nil aK) aG))) (bq (i:=2) rG.nd rfl (Or.inl rfl))
    (aJ (bh (cF (K:=K) Cc Cm Ck bM (bb (aZ (K:=K)) (pv 1) (bb (bz (K:=K)) (pv 2) aN (λ _ _=>rfl)) (λ _ _=>rfl)) (aI (pv 2) aG)))))
   (aJ (aR (pv 1))))),?_⟩
  refine sq λ al ae=>?_
  have m2:=lo.m2
  refine⟨_,rfl,L.p,_,L.dx,_,_,rfl,lo.c.self,T.cl_Loom,T.na_cs,rfl,(A.many:Int),rfl,by lia,by lia,dZ (n:=A.many) (by lia) λ u hu=>⟨λ i a5 ys H2=>∃ F:List Addr,ys=F.map V.ref/\F.length=i/\F.Nodup/\(∀ q∈F,H q=none/\q≠u/\H2 q=some (.lst []))/\H2 u=some (.lst ys)/\aL H H2,⟨[],rfl,rfl,.nil,(λ q M=>by cases M),aD,aL.new hu⟩,?_,?_,?_⟩⟩
  ·rintro i a5 ys H2 hi ⟨F,rfl,lu,_⟩
   rw[BB];lia
  ·rintro i a5 ys H2 hi ⟨F,rfl,lu,nd,fr,e2,s2⟩
   dsimp only[cH,gY]
   refine dF ⟨by decide,λ q Y=>?_⟩
   have a4:q≠u:=λ z=>by rw[z,e2] at Y;cases Y
   have aa:q∉F:=λ z=>by rw[(fr q z).2.2] at Y;cases Y
   refine⟨by rw[aE (Ne.symm a4)];exact e2,Nx.mk hi ⟨F++[q],by rw[B7];rfl,by rw[BL,lu];rfl,Cq.mpr ⟨nd,by simp,λ a ha b hb z=>aa (by rw[BD] at hb;rw[<- hb,<- z];exact ha)⟩,λ c hc=>?_,aD,λ c o e=>?_⟩⟩
   ·rcases BH.mp hc with hc|hc
    ·obtain⟨f1,f2,f3⟩:=fr c hc
     exact⟨f1,f2,by rw[aE f2,aE (λ z=>aa (by rw[<- z];exact hc))];exact f3⟩
    ·rw[BD] at hc
     rw[hc]
     exact⟨s2.free Y,a4,by rw[aE a4,aD]⟩
   ·rw[aE (aF e hu),aE (aF (s2 _ _ e) Y)];exact s2 _ _ e
  rintro a5 ys H2 ⟨F,rfl,lu,nd,fr,e2,s2⟩
  have a7:=lo.same s2
  refine(sn ae λ ar af=>?_:al _ _ _)
  refine⟨_,rfl,L.p,L.dx,_,rfl,a7.c.self,rfl,G,L,A,n,rfl,a7,hn,λ td H3 s3 aq ag=>?_⟩
  have tb:=lo.ta hn
  refine⟨td,_,rfl,ag,by rw[BB];lia,λ bs ks=>?_⟩
  have nm:=tF ks
  have sm:∀ x∈A.A.ta.map (·.1),Small x:=λ x hx=>by
   obtain⟨e,he,rfl⟩:=BV.mp hx
   exact(tb.2 e he).1
  refine⟨nm.small sm,by rw[nm.vm];exact gR lo.wf.nt sm,λ l J nl p so=>?_⟩
  obtain⟨ns,n1,n2,n3⟩:=nm.sorted p so
  have s4:=aL.new (o:=.lst J) nl
  have el:=aD (H:=H3) (a:=l) (o:=.lst J)
  have a8:=n1.same s4
  have Z:=s3.trans s4
  generalize upd H3 l (.lst J)=H4 at s4 el a8 Z ⊢
  have ad:=Z _ _ e2
  have ap:l≠u:=λ z=>by rw[z,s3 _ _ e2] at nl;cases nl
  have a9:l∉F:=λ z=>by rw[s3 _ _ (fr l z).2.2] at nl;cases nl
  have rg:∀ x∈ns,0<=x.1/\x.1<A.many:=λ x hx=>by
   obtain⟨e,he,rfl⟩:=BV.mp (n2.mem_iff.mp hx)
   obtain⟨y,hy,ey,_⟩:=lo.wf.tp e he
   have:=lo.wf.rg y hy
   rw[<- ey];exact⟨this.1,this.2.1⟩
  have gt:∀ (i:Nat) (xs:List Nm3),i<A.many->(cL A.many xs)[i]? = some (xs.filter λ n=>decide (n.1=(i:Int))):=λ i xs hi=>by
   unfold cL
   rw[BC,List.getElem?_range hi];rfl
  have bl:∀ xs,(cL A.many xs).length=A.many:=λ xs=>by unfold cL;rw[BB,Em]
  refine⟨l,rfl,⟨_,SqL.of el⟩,kX (xs:=J) (λ i σ H'=>Lnm H' u F (cL A.many (ns.take i))/\aL H H'/\H' l=some (.lst J)/\NmL H' J ns/\∃ o,σ=[some (.ref L.p),some (.ref u),o]) ⟨⟨ad,by rw[bl];exact lu,nd,(λ z=>(fr u z).2.1 rfl),λ i q xs h1 h2=>?_⟩,s2.trans Z,el,a8,_,rfl⟩ ?_ ?_ ?_⟩
  ·have hi:i<A.many:=by have:=(BE.mp h2).1;rw[bl] at this;exact this
   rw[gt i _ hi] at h2
   cases h2
   exact⟨[],Z _ _ (fr q (BJ h1)).2.2,.nil⟩
  ·rintro i σ H' _ ⟨_,_,e,_⟩
   exact SqL.of e
  ·rintro i x σ H' hx ⟨W,s',a6,O,o,rfl⟩
   have hi:i<ns.length:=by have:=(BE.mp hx).1;rw[O.len] at this;exact this
   have U:=Bz hi
   obtain⟨b,rfl,hb⟩:=O.all x (BJ hx)
   have ex:fN H' (.ref b)=ns[i]:=by
    have:=congrArg (λ z=>z[i]?) O.eq
    simp only[BC,hx,U] at this
    exact Option.some.inj this
   rw[ex] at hb
   generalize an:ns[i]=x0 at U hb ex
   obtain⟨g0,g1⟩:=rg x0 (BJ U)
   obtain⟨h,hh⟩:=Cd g0
   have ah:h<A.many:=by lia
   obtain⟨q,M⟩:∃ q,F[h]? = some q:=⟨_,Bz (by lia)⟩
   obtain⟨ls,a3,Y⟩:=W.at' h q _ M (gt h _ ah)
   have ab:atI (F.map V.ref) x0.1=some (.ref q):=by
    rw[hh];exact cM (by rw[BC,M];rfl)
   have ao:ls.length<=90:=by
    rw[Y.len]
    refine B6 (Dj _ _) (B6 (by rw[CB];exact Nat.min_le_right _ _) ?_)
    rw[n2.length_eq,BB];exact tb.1
   refine⟨_,rfl,_,rfl,b,_,0,.int x0.1,rfl,rfl,SqT.of hb,rfl,u,_,_,_,rfl,rfl,SqL.of W.self,ab,.inl ⟨rfl,_,SqL.of a3⟩,_,rfl,q,ls,.ref b,rfl,rfl,a3,bg (by lia),?_⟩
   have ak:u≠q:=λ z=>W.ne (by rw[z];exact BJ M)
   have tk:∀ c xs,H' c=some (.tup xs)->upd H' q (.lst (ls++[.ref b])) c=some (.tup xs):=λ c xs e=>by rw[aE (λ z=>by rw[z,a3] at e;cases e)];exact e
   refine⟨⟨by rw[aE ak];exact W.self,by rw[bl];exact lu,nd,W.ne,λ j c xs h1 h2=>?_⟩,λ c o e=>?_,?_,O.keep tk,_,rfl⟩
   ·have hj:j<A.many:=by have:=(BE.mp h2).1;rw[bl] at this;exact this
    rw[gt j _ hj,Dq,U,EO] at h2
    cases h2
    by_cases z:j=h
    ·subst z
     rw[M] at h1;cases h1
     refine⟨_,aD,?_⟩
     have:([x0].filter λ n=>decide (n.1=(j:Int)))=[x0]:=by rw[DN,BN (by rw[hh];simp)];rfl
     show NmL _ _ (_++[x0].filter _)
     rw[this]
     exact(Y.snoc ⟨b,rfl,hb⟩).keep tk
    ·have:([x0].filter λ n=>decide (n.1=(j:Int)))=[]:=by rw[DN,BI (by rw[hh];simp;lia)];rfl
     show ∃ ls,_/\NmL _ ls (_++[x0].filter _)
     rw[this,Dr]
     obtain⟨ai,a1,a2⟩:=W.at' j c _ h1 (gt j _ hj)
     have aj:c≠q:=λ y=>z ((C2 (l:=F) (by lia) nd).mp (by rw[h1,M,y]))
     exact⟨ai,by rw[aE aj];exact a1,a2.keep tk⟩
   ·rw[aE (aF e (fr q (BJ M)).1)];exact s' _ _ e
   ·rw[aE (λ z=>a9 (by rw[z];exact BJ M))];exact a6
  ·rintro σ H' ⟨W,s',a6,O,o,rfl⟩
   rw[n1.len,Eu] at W
   subst af
   exact⟨_,rfl,k u F ns H' s' hu (λ q M=>(fr q M).1) W n3 n2⟩
noncomputable def SgO (nss:List (List Nm3)) (ln:List Int) (v:V):Prop:=(∃ (h:Nat) (ns:List Nm3) (n:Nm3),v=.int h/\nss[h]? = some (ns++[n])/\bW ln h<n.2.1)\/(v=.non/\∀ (h:Nat) ns n,nss[h]? = some (ns++[n])->n.2.1<=bW ln h)
noncomputable def xn (K:W.Frag):Sp:=λ vs H Q _=>∃ u us nss l ln,vs=[.ref u,.ref l]/\Lnm H u us nss/\SqL K H l (iV ln)/\ln.length=nss.length/\nss.length<=5/\(∀ (h:Nat) ns,nss[h]? = some ns->∀ n∈ns,n.1=(h:Int)) /\
 ∀ v H',aL H H'->SgO nss ln v->Q v H'
theorem vg (T:Txt K mg t):bB P w K mg base (CXr P w) 2 t.f_aj t.fd_aj ["used","line"] (xn K):=by
 refine T.F_aj.okN rr (λ vs H Q E h=>?_) (λ a3 A outer s H vs Q E hr h=>?_)
 ·obtain⟨u,us,J,l,ln,rfl,_⟩:=h;rfl
 ·obtain⟨u,us,J,l,ln,rfl,ll,hl,a5,a4,a2,k⟩:=h
  refine⟨_,(aH (cZ PassesOwn.never rfl (ki (K:=K) rfl T.no_enumerate (aI (pv 0) aG)) (ig (K:=K) rfl (cW (bq (i:=2) rr.nd rfl (Or.inl rfl)) (cW (bq (i:=3) rr.nd rfl (Or.inl rfl)) hU)))
    (aJ (bQ (PW.pt (nj (p7 (K:=K) (pv 3) (λ _=>rfl)) (kL (cY (cI (aV (vk (K:=K) T) (hr.mono (by decide)) rfl T.mg_ar T.kp_ar T.b_ar .nil aK (aI (pv 1) (aI (bb (aZ (K:=K)) (pv 3) (oA kN aN) (λ _ _=>rfl)) aG))))))))
    (aJ (aR (pv 2)))
    bu)))
   (aJ (aR gJ))),?_⟩
  have lu:(us.map V.ref).length=J.length:=by rw[BB,ll.len]
  refine⟨_,rfl,u,_,rfl,SqL.of ll.self,jb (xs:=us.map V.ref) (λ i σ H'=>aL H H'/\(∀ (h:Nat) U n,h<i->J[h]? = some (U++[n])->n.2.1<=bW ln h)/\∃ o1 o2,σ=[some (.ref u),some (.ref l),o1,o2]) ⟨.refl _,(λ h U n lt=>absurd lt (Nat.not_lt_zero _)),_,_,rfl⟩ ?_ ?_ ?_⟩
  ·rintro i σ H' _ ⟨s',_⟩
   exact SqL.of (s' _ _ ll.self)
  ·rintro i x p σ H1 hx np ⟨s1,W,o1,o2,rfl⟩
   have hi:i<J.length:=by have:=(BE.mp hx).1;rw[lu] at this;exact this
   obtain⟨q,hq,rfl⟩:∃ q,us[i]? = some q/\x=.ref q:=by
    rw[BC] at hx
    cases e:us[i]? with
    | none=>rw[e] at hx;cases hx
    | some q=>rw[e] at hx;cases hx;exact⟨q,rfl,rfl⟩
   obtain⟨U,F⟩:∃ U,J[i]? = some U:=⟨_,Bz hi⟩
   obtain⟨ls,el,nm⟩:=ll.at' i q U hq F
   have s2:=aL.new (o:=.tup [.int i,.ref q]) np
   have j:=s1.trans s2
   refine⟨p,_,rfl,SqT.of aD,rfl,_,_,rfl,_,_,rfl,rfl,?_⟩
   generalize upd H1 p (.tup [.int i,.ref q])=H2 at s2 j ⊢
   have a1:=j _ _ el
   have O:=nm.same j
   refine⟨_,rfl,_,.inl ⟨ls,SqL.of a1,rfl⟩,eC (λ z=>?_) λ z=>?_⟩
   ·have nl:ls≠[]:=λ y=>by rw[y] at z;cases z
    obtain⟨ks,v,rfl⟩:=dh nl
    have nn:U≠[]:=λ y=>by have:=O.len;rw[y] at this;simp at this
    obtain⟨ms,Z,rfl⟩:=dh nn
    obtain⟨b,rfl,hb⟩:=O.all v (by simp)
    have ex:fN H2 (.ref b)=Z:=by
     have:=O.eq
     rw[B7,Ed] at this
     exact(FL this rfl).2 |> λ h=>by cases h;rfl
    rw[ex] at hb
    have s0:Z.1=(i:Int):=a2 i _ F Z (by simp)
    refine⟨_,rfl,_,rfl,1,rfl,q,_,-1,.ref b,rfl,rfl,SqL.of a1,eO,l,b,ln,Z,rfl,j.seq hl,hb,by lia,by lia,_,rfl,eC (λ y=>?_) λ y=>?_⟩
    ·have y':bW ln (i:Int)<Z.2.1:=by
      rw[s0] at y
      simpa using y
     exact⟨_,rfl,k _ H2 j (.inl ⟨i,ms,Z,rfl,F,y'⟩)⟩
    ·refine⟨j,λ h Y n' lt M=>?_,_,_,rfl⟩
     by_cases e:h=i
     ·subst e
      rw[F] at M
      have:=FL (Option.some.inj M) rfl
      have e2:Z=n':=by have:=this.2;cases this;rfl
      rw[<- e2]
      rw[s0] at y
      simpa using y
     ·exact W h Y n' (by lia) M
   ·refine cj rfl ⟨j,λ h Y n' lt M=>?_,_,_,rfl⟩
    by_cases e:h=i
    ·subst e
     rw[F] at M
     have e1:=Option.some.inj M
     have:=O.len
     rw[e1] at this
     have:ls≠[]:=λ y=>by rw[y] at this;simp at this
     exact absurd (by cases ls with|nil=>exact absurd rfl this|cons _ _=>rfl) z
    ·exact W h Y n' (by lia) M
  ·rintro σ H' ⟨s',W,o1,o2,rfl⟩
   exact k _ H' s' (.inr ⟨rfl,λ h U n M=>W h U n (by rw[lu];exact(BE.mp M).1) M⟩)
noncomputable def uz (a b:List Int):List Int:=(a.zip b).map λ p=>max p.1 p.2
noncomputable def jV (a b:List Int):List Int:=(a.zip b).map λ p=>min p.1 p.2
theorem gj {A:DiA}{ln:List Int}:A.brk ln=[]↔∀ e∈A.ta,e.2<=bW ln (A.eM e.1)->e.1.2.1<=bW ln e.1.1:=by
 unfold DiA.brk
 rw[Fb]
 constructor
 ·intro h e j F
  have:=h e.1 (BX (Cy.mpr ⟨j,Cu F⟩))
  simpa [dB] using this
 ·intro h n q
  obtain⟨e,j,rfl⟩:=BV.mp q
  obtain⟨h1,h2⟩:=Cy.mp j
  have:=h e h1 (CN h2)
  simp[dB,this]
theorem dJ {a b:List Int}{h:Int}(f:Int->Int->Int) (F:a.length=b.length) (h0:0<=h) (h1:h<a.length):bW ((a.zip b).map λ p=>f p.1 p.2) h=f (bW a h) (bW b h):=by
 obtain⟨i,rfl⟩:=Cd h0
 have j:i<a.length:=by lia
 have q:i<b.length:=by lia
 have e:(a.zip b)[i]? = some (a[i],b[i]):=by
  rw[List.getElem?_zip_eq_some];exact⟨Bz j,Bz q⟩
 unfold bW
 rw[Cg,BC,e,Bz j,Bz q]
 rfl
theorem uv {a b:List Int}(f:Int->Int->Int) (j:a.length=b.length):((a.zip b).map λ p=>f p.1 p.2).length=a.length:=by
 rw[BB,List.length_zip];lia
theorem sM {m:Int}{c:Int->Int}{A:DiA}(w:WfD m c A) {a b:List Int}(la:a.length=m) (len:a.length=b.length) (ha:A.brk a=[]) (hb:A.brk b=[]):A.brk (uz a b)=[]/\A.brk (jV a b)=[]:=by
 rw[gj] at ha hb
 rw[gj,gj]
 refine⟨λ e he hu=>?_,λ e he hu=>?_⟩ <;>
 ·obtain⟨l,hl,el,_⟩:=w.tp e he
  have r:=w.rg l hl
  have t:A.eM e.1=l.to:=by rw[<- el];exact gx w.nd hl
  have x:=ha e he
  have y:=hb e he
  rw[t] at hu x y
  first
   | unfold uz at hu ⊢;rw[dJ max len (by lia) (by lia)] at hu;rw[dJ max len (by rw[<- el];lia) (by rw[<- el];lia)]
   | unfold jV at hu ⊢;rw[dJ min len (by lia) (by lia)] at hu;rw[dJ min len (by rw[<- el];lia) (by rw[<- el];lia)]
  lia
noncomputable def AlY (T:ThA) (st:Prop) (y:Int):Prop:=((0<=y/\y<=T.down)\/y∈T.ws)\/(st/\y=T.evs.length)
noncomputable def AlW (A:LoA) (fs:List Int) (s:List Int):Prop:=s.length=A.many/\∀ (i:Nat) T y,A.ths[i]? = some T->s[i]? = some y->AlY T ((i:Int)∉fs) y
noncomputable def Gl (A:LoA) (fs:List Int) (ln:List Int):Prop:=AlW A fs ln/\A.A.brk ln=[]/\∀ s,AlW A fs s->A.A.brk s=[]->∀ i:Nat,i<A.many->bW s i<=bW ln i
noncomputable def Quiet (A:LoA) (fs:List Int):Prop:=∀ (i:Nat) T,A.ths[i]? = some T->(i:Int)∉fs\/T.down=T.evs.length
noncomputable def plF (A:LoA):List Int:=A.ths.map λ T=>(T.evs.length:Int)
theorem ju {ta:List (Nm3×Int)}(J:(ta.map (·.1)).Nodup) {l q:Nm3×Int}(h:l∈ta) (h':q∈ta) (e:l.1=q.1):l=q:=by
 obtain⟨i,hi,rfl⟩:=B2 h
 obtain⟨j,F,rfl⟩:=B2 h'
 have:i=j:=(C2 (l:=ta.map (·.1)) (by simpa using hi) J).mp (by rw[BC,BC,Bz hi,Bz F];exact congrArg some e)
 subst this;rfl
structure Iv (A:LoA) (fs:List Int) (xss:List (List Int)) (nss:List (List Nm3)):Prop where
 lx:xss.length=A.many
 ln:nss.length=A.many
 p1:∀ (i:Nat) xs,xss[i]? = some xs->(∃ r,xs=0::r)/\xs.Pairwise (· < ·)
 pa:∀ (i:Nat) T xs,A.ths[i]? = some T->xss[i]? = some xs->∀ y∈xs,AlY T ((i:Int)∉fs) y
 p2:∀ s,AlW A fs s->A.A.brk s=[]->∀ (i:Nat) xs,xss[i]? = some xs->bW s i∈xs
 n1:∀ (h:Nat) ns,nss[h]? = some ns->ky ns/\∀ n∈ns,n.1=(h:Int)/\n∈A.A.ta.map (·.1)
 n2:∀ e∈A.A.ta,(∃ ns,nss[e.1.1.toNat]? = some ns/\e.1∈ns)\/bW (xss.map cq) (A.A.eM e.1)<e.2
theorem hW:cq (0::r)∈0::r:=by
 obtain⟨ys,y,e⟩:=dh (xs:=(0:Int)::r) (by simp)
 rw[e,gG];simp
theorem ik (p:xs.Pairwise (· < ·)) (h:y∈xs):y<=cq xs:=by
 obtain⟨ys,z,rfl⟩:=dh (xs:=xs) (λ e=>by rw[e] at h;cases h)
 rw[gG]
 rcases BH.mp h with h|h
 ·have:=(Co.mp p).2.2 y h z (by simp);lia
 ·rw[BD] at h;lia
theorem dv {ln:List Int}{i:Nat}{y:Int}(h:ln[i]? = some y):bW ln i=y:=by
 unfold bW;rw[Cg,h];rfl
theorem iP {j:List (List Int)}{i:Nat}{xs:List Int}(h:j[i]? = some xs):bW (j.map cq) i=cq xs:=dv (by rw[BC,h];rfl)
theorem Iv.done {A:LoA}{fs:List Int}{j:List (List Int)}{nss:List (List Nm3)}(v:Iv A fs j nss) (wf:WfD A.many (cnt A.ths) A.A) (sm:∀ e∈A.A.ta,Small e.1) (h:∀ (h:Nat) ns n,nss[h]? = some (ns++[n])->n.2.1<=bW (j.map cq) h):Gl A fs (j.map cq):=by
 refine⟨⟨by rw[BB];exact v.lx,λ i T y hT J=>?_⟩,?_,λ s aw sd i hi=>?_⟩
 ·rw[BC] at J
  cases e:j[i]? with
  | none=>rw[e] at J;cases J
  | some xs=>
   rw[e] at J;cases J
   obtain⟨⟨r,rfl⟩,_⟩:=v.p1 i xs e
   exact v.pa i T _ hT e _ hW
 ·rw[gj]
  intro e O hu
  rcases v.n2 e O with ⟨ns,F,M⟩|Z
  ·obtain⟨l,hl,el,_⟩:=wf.tp e O
   have r:=wf.rg l hl
   rw[el] at r
   obtain⟨k,Y⟩:=Cd r.1
   rw[Y,Cg] at F
   obtain⟨a1,W⟩:=v.n1 k ns F
   obtain⟨ms,m,rfl⟩:=dh (xs:=ns) (λ z=>by rw[z] at M;cases M)
   have h1:=h k ms m F
   rw[Y]
   rcases BH.mp M with q|q
   ·have Z:=(Co.mp a1).2.2 e.1 q m (by simp)
    have s1:=(W e.1 M).1
    have s2:=W m (by simp)
    obtain⟨e',U,em⟩:=BV.mp s2.2
    have q1:=sm e O
    have q2:=sm e' U
    rw[em] at q2
    have s3:=s2.1
    unfold cd3 at Z
    unfold Small at q1 q2
    lia
   ·rw[BD] at q
    rw[q];exact h1
  ·lia
 ·obtain⟨xs,V⟩:∃ xs,j[i]? = some xs:=⟨_,Bz (by rw[v.lx];exact hi)⟩
  rw[iP V]
  exact ik (v.p1 i xs V).2 (v.p2 s aw sd i xs V)
theorem Iv.pop (v:Iv A fs xss nss) (nt:(A.A.ta.map (·.1)).Nodup) (U:nss[h]? = some (ns++[n])) (no:∀ e∈A.A.ta,e.1=n->bW (xss.map cq) (A.A.eM n)<e.2):Iv A fs xss (nss.set h ns):=by
 have j:=(BE.mp U).1
 obtain⟨Y,Z⟩:=v.n1 h _ U
 refine⟨v.lx,by rw[DU];exact v.ln,v.p1,v.pa,v.p2,λ k V M=>?_,λ e W=>?_⟩
 ·by_cases z:h=k
  ·subst z
   rw[B8 j] at M
   cases M
   exact⟨(Co.mp Y).1,λ m F=>Z m (BS _ F)⟩
  ·rw[Cp z] at M
   exact v.n1 k V M
 ·by_cases O:e.1=n
  ·exact .inr (by rw[O];exact no e W O)
  ·rcases v.n2 e W with ⟨V,F,J⟩|lt
   ·refine .inl ?_
    by_cases z:h=e.1.1.toNat
    ·rw[<- z,U] at F
     cases F
     refine⟨ns,by rw[<- z];exact B8 j,?_⟩
     rcases BH.mp J with q|q
     ·exact q
     ·exact absurd (BD.mp q) O
    ·exact⟨V,by rw[Cp z];exact F,J⟩
   ·exact .inr lt
theorem Iv.step {A:LoA}{fs:List Int}{F:List (List Int)}{nss:List (List Nm3)}{h:Nat}{ns:List Nm3}{e:Nm3×Int}{k:Nat}{xs:List Int}(v:Iv A fs F nss) (W:WfD A.many (cnt A.ths) A.A) (Y:e∈A.A.ta) (hn:nss[h]? = some (ns++[e.1]))
  (hk:A.A.eM e.1=(k:Int)) (V:F[k]? = some xs) (us:A.A.eE (F.map cq) e=true) (M:dB (F.map cq) e.1=false):Iv A fs (F.set k (xs.filter λ y=>decide (y<e.2))) (nss.set h ns):=by
 have J:=(BE.mp V).1
 obtain⟨⟨r,rfl⟩,O⟩:=v.p1 k xs V
 have e1:=W.t1 e Y
 have f0:(0::r).filter (λ y=>decide (y<e.2))=0::r.filter (λ y=>decide (y<e.2)):=by rw[DN,BN (by rw[C0];lia)]
 have U:((0::r).filter (λ y=>decide (y<e.2))).Pairwise (· < ·):=O.filter _
 have a1:∀ (x:Int),bW ((F.set k ((0::r).filter λ y=>decide (y<e.2))).map cq) x<=bW (F.map cq) x:=λ x=>by
  by_cases z:x.toNat=k
  ·unfold bW
   rw[z,BC,BC,B8 J,V]
   simp only[Df,Option.getD_some]
   refine ik O ?_
   have:=hW (r:=r.filter λ y=>decide (y<e.2))
   rw[<- f0] at this
   exact(Cy.mp this).1
  ·unfold bW
   rw[BC,BC,Cp (Ne.symm z)]
   exact CS _
 have tk:bW ((F.set k ((0::r).filter λ y=>decide (y<e.2))).map cq) (A.A.eM e.1)<e.2:=by
  rw[hk,iP (B8 J)]
  have:=hW (r:=r.filter λ y=>decide (y<e.2))
  rw[<- f0] at this
  exact CN (Cy.mp this).2
 have v':Iv A fs (F.set k ((0::r).filter λ y=>decide (y<e.2))) nss:=by
  refine⟨by rw[DU];exact v.lx,v.ln,λ i ys hi=>?_,λ i T ys hT hi y hy=>?_,λ s aw Z i ys hi=>?_,v.n1,λ d hd=>?_⟩
  ·by_cases z:k=i
   ·subst z
    rw[B8 J] at hi
    cases hi
    exact⟨⟨_,f0⟩,U⟩
   ·rw[Cp z] at hi
    exact v.p1 i ys hi
  ·by_cases z:k=i
   ·subst z
    rw[B8 J] at hi
    cases hi
    exact v.pa k T _ hT V y (Cy.mp hy).1
   ·rw[Cp z] at hi
    exact v.pa i T ys hT hi y hy
  ·by_cases z:k=i
   ·subst z
    rw[B8 J] at hi
    cases hi
    refine Cy.mpr ⟨v.p2 s aw Z k _ V,?_⟩
    rw[C0]
    have sn:=(gj.mp Z) e Y
    rw[hk] at sn
    refine Int.lt_of_not_ge λ ge=>?_
    have s1:=sn ge
    obtain⟨l,hl,el,_⟩:=W.tp e Y
    have rg:=W.rg l hl
    rw[el] at rg
    obtain⟨j,hj⟩:=Cd rg.1
    obtain⟨zs,hz⟩:∃ zs,F[j]? = some zs:=⟨_,Bz (by rw[v.lx];lia)⟩
    have:=ik (v.p1 j zs hz).2 (v.p2 s aw Z j zs hz)
    unfold dB at M
    rw[hj,iP hz] at M
    rw[hj] at s1
    have:=of_decide_eq_false M
    lia
   ·rw[Cp z] at hi
    exact v.p2 s aw Z i ys hi
  ·rcases v.n2 d hd with q|lt
   ·exact .inl q
   ·exact .inr (Fx (a1 _) lt)
 refine v'.pop W.nt hn λ d hd en=>?_
 have:d=e:=ju W.nt hd Y en
 rw[this];exact tk
theorem sum_set:∀ {nss:List (List Nm3)}{h:Nat}{ns:List Nm3}{n:Nm3},nss[h]? = some (ns++[n])->((nss.set h ns).map List.length).sum<(nss.map List.length).sum
 | [],h,_,_,e=>by simp at e
 | x::r,0,ns,n,e=>by
  have j:x=ns++[n]:=by simpa using e
  rw[j]
  simp
 | x::r,h+1,ns,n,e=>by
  have:=sum_set (nss:=r) (h:=h) (by simpa using e)
  simp at this ⊢
  exact this
theorem uU (p:xs.Pairwise (· < ·)) (h:(0:Int)∈xs) (j:∀ y∈xs,0<=y):∃ r,xs=0::r:=by
 cases xs with
 | nil=>cases h
 | cons x r=>
  rcases BF.mp h with e|e
  ·exact⟨r,by rw[e]⟩
  ·have:=(DR.mp p).1 0 e
   have:=j x BR
   lia
theorem AlO.iff {T:ThA}{fs xs:List Int}{i:Nat}(h:AlO T (decide ((i:Int)∉fs)) xs) (y:Int):y∈xs↔AlY T ((i:Int)∉fs) y:=by
 rw[h.2 y];unfold AlY;simp
theorem AlY.rg (w:TWf n T) (h:AlY T st y):0<=y/\y<=T.evs.length:=by
 have:=w.dn
 rcases h with (h|h)|h
 ·lia
 ·exact w.rg y h
 ·lia
theorem Iv.start {A:LoA}{fs:List Int}{j:List (List Int)}{ns:List Nm3}{n:Nat}(lt:A.ths.length=A.many) (tw:∀ T∈A.ths,TWf n T) (wf:WfD A.many (cnt A.ths) A.A) (lx:j.length=A.many) (U:∀ (i:Nat) T xs,A.ths[i]? = some T->j[i]? = some xs->AlO T (decide ((i:Int)∉fs)) xs) (as:ky ns) (pm:ns.Perm (A.A.ta.map (·.1))) :
  Iv A fs j (cL A.many ns)/\(Quiet A fs->j.map cq=plF A):=by
 have th:∀ {i:Nat} {xs},j[i]? = some xs->∃ T,A.ths[i]? = some T/\TWf n T/\AlO T (decide ((i:Int)∉fs)) xs:=λ{i xs} h=>by
  have hi:=(BE.mp h).1
  have e:=Bz (l:=A.ths) (i:=i) (by lia)
  exact⟨_,e,tw _ (BJ e),U i _ xs e h⟩
 have Y:∀ (i:Nat),i<A.many->(cL A.many ns)[i]? = some (ns.filter λ n=>decide (n.1=(i:Int))):=λ i hi=>by
  unfold cL
  rw[BC,List.getElem?_range hi];rfl
 have W:(cL A.many ns).length=A.many:=by unfold cL;rw[BB,Em]
 refine⟨⟨lx,W,λ i xs h=>?_,λ i T xs F h y M=>((U i T xs F h).iff y).mp M,λ s V _ i xs h=>?_,λ k ms h=>?_,λ e O=>.inl ?_⟩,λ q=>?_⟩
 ·obtain⟨T,F,w,a⟩:=th h
  exact⟨uU a.1 ((a.iff 0).mpr (.inl (.inl ⟨CS _,w.d0⟩))) λ y M=>(((a.iff y).mp M).rg w).1,a.1⟩
 ·obtain⟨T,F,w,a⟩:=th h
  have hi:=(BE.mp h).1
  have e:=Bz (l:=s) (i:=i) (by rw[V.1];lia)
  rw[dv e]
  exact(a.iff _).mpr (V.2 i T _ F e)
 ·have J:=(BE.mp h).1
  rw[W] at J
  rw[Y k J] at h
  cases h
  exact⟨List.Pairwise.filter _ as,λ m Z=>⟨CN (Cy.mp Z).2,pm.mem_iff.mp (Cy.mp Z).1⟩⟩
 ·obtain⟨l,hl,el,_⟩:=wf.tp e O
  have r:=wf.rg l hl
  rw[el] at r
  obtain⟨k,J⟩:=Cd r.1
  refine⟨_,by rw[J,Cg];exact Y k (by lia),Cy.mpr ⟨pm.mem_iff.mpr (BX O),by rw[J];simp⟩⟩
 ·unfold plF
  refine DG λ i=>?_
  rw[BC,BC]
  by_cases hi:i<A.many
  ·have hx:=Bz (l:=j) (i:=i) (by lia)
   obtain⟨T,F,w,a⟩:=th hx
   rw[hx,F]
   have O:(T.evs.length:Int)∈j[i]:=(a.iff _).mpr (by
    rcases q i T F with h|h
    ·exact .inr ⟨h,rfl⟩
    ·exact .inl (.inl ⟨by lia,by lia⟩))
   have h1:=ik a.1 O
   obtain⟨r,hr⟩:=uU a.1 ((a.iff 0).mpr (.inl (.inl ⟨CS _,w.d0⟩))) λ y M=>(((a.iff y).mp M).rg w).1
   have h2:=(((a.iff _).mp (by rw[hr];exact hW (r:=r))).rg w).2
   rw[<- hr] at h2
   simp only[Df]
   exact congrArg some (by lia)
  ·rw[Cv (by lia),Cv (by lia)];rfl
theorem vN:∀ (ns:List Nm3) {k:Nat},ns.length<=k->((cL m ns).map List.length).sum<=k:=λ ns k h=>by
 refine B6 ?_ h
 unfold cL
 rw[Cs]
 clear h
 induction ns with
 | nil=>
  have:∀ j:Nat,((List.range j).map (List.length ∘ λ h:Nat=>([]:List Nm3).filter λ n=>decide (n.1=(h:Int)))).sum=0:=λ j=>by
   induction j with
   | zero=>rfl
   | succ j M=>rw[Ff,B7,FP,M];rfl
  rw[this m];exact Cf _
 | cons x r M=>
  have J:∀ j:Nat,((List.range j).map (List.length ∘ λ h:Nat=>(x::r).filter λ n=>decide (n.1=(h:Int)))).sum<=((List.range j).map (List.length ∘ λ h:Nat=>r.filter λ n=>decide (n.1=(h:Int)))).sum+(if 0<=x.1/\x.1<j then 1 else 0):=λ j=>by
   induction j with
   | zero=>simp
   | succ j F=>
    rw[Ff,B7,B7,FP,FP]
    simp only[Ce,FH,List.sum_cons,List.sum_nil,Function.comp,EG]
    rw[DN]
    by_cases e:x.1=(j:Int)
    ·rw[BN (by rw[C0];exact e),Ci,BN (by lia)]
     rw[BI (by lia)] at F
     lia
    ·rw[BI (by rw[C0];exact e)]
     by_cases q:0<=x.1/\x.1<j
     ·rw[BN q] at F
      rw[BN (by lia)]
      lia
     ·rw[BI q] at F
      rw[BI (by lia)]
      lia
  refine B6 (J m) ?_
  rw[Ci]
  split<;>lia
theorem kept (q:H x=some (.lst ys)) (j:But [x] H H'):∀ c o,H c=some o->(∀ zs,o≠.lst zs)->H' c=some o:=λ c o h n=>j c o (by rw[BD];exact λ z=>by rw[z,q] at h;exact n _ (Option.some.inj h).symm) h
theorem De.but (h:De t H D A xss) (O:H x=some (.lst ys)) (F:But [x] H H') (U:x≠D.al) (V:x∉D.qs):De t H' D A xss:=by
 have j:=kept O F
 have J:∀ c,c≠x->c∉[x]:=λ c n=>by rw[BD];exact n
 exact⟨j _ _ h.self (λ _ z=>by cases z),j _ _ h.po (λ _ z=>by cases z),j _ _ h.ta (λ _ z=>by cases z),⟨F _ _ (J _ (Ne.symm U)) h.lls.self,h.lls.len,h.lls.nd,h.lls.ne,λ i q xs a b=>F _ _ (J _ (λ z=>V (by rw[<- z];exact BJ a))) (h.lls.at' i q xs a b)⟩,λ l M=>j _ _ (h.lets l M) (λ _ z=>by cases z)⟩
theorem De.set (h:De t H D A xss) (j:D.qs[k]? = some q) (M:xss[k]? = some xs) (J:But [q] H H') (e:H' q=some (.lst (iV xs'))):De t H' D A (xss.set k xs'):=by
 have F:=kept (h.lls.at' k q xs j M) J
 have O:∀ c,c≠q->c∉[q]:=λ c n=>by rw[BD];exact n
 refine⟨F _ _ h.self (λ _ z=>by cases z),F _ _ h.po (λ _ z=>by cases z),F _ _ h.ta (λ _ z=>by cases z),⟨J _ _ (O _ (λ z=>h.lls.ne (by rw[z];exact BJ j))) h.lls.self,by rw[DU];exact h.lls.len,h.lls.nd,h.lls.ne,λ i c ys a b=>?_⟩,λ l U=>F _ _ (h.lets l U) (λ _ z=>by cases z)⟩
 by_cases z:k=i
 ·subst z
  rw[B8 (BE.mp M).1] at b
  cases b
  rw[j] at a;cases a
  exact e
 ·rw[Cp z] at b
  refine J _ _ (O _ λ y=>z ?_) (h.lls.at' i c ys a b)
  exact(C2 (l:=D.qs) (BE.mp j).1 h.lls.nd).mp (by rw[j,a,y])
theorem Lnm.but (h:Lnm H l qs nss) (J:H x=some (.lst ys)) (j:But [x] H H') (U:x≠l) (V:x∉qs):Lnm H' l qs nss:=by
 have M:=kept J j
 have F:∀ c,c≠x->c∉[x]:=λ c n=>by rw[BD];exact n
 refine⟨j _ _ (F _ (Ne.symm U)) h.self,h.len,h.nd,h.ne,λ i q W a b=>?_⟩
 obtain⟨O,e,nm⟩:=h.at' i q W a b
 exact⟨O,j _ _ (F _ (λ z=>V (by rw[<- z];exact BJ a))) e,nm.keep λ c xs e=>M _ _ e (λ _ z=>by cases z)⟩
theorem NmL.last (h:NmL H (ls++[v]) (ns++[n])):NmL H ls ns/\eF H v n:=by
 have e:=h.eq
 rw[B7,Ed] at e
 have j:=FL e rfl
 have q:fN H v=n:=by have:=j.2;cases this;rfl
 exact⟨⟨j.1,λ u F=>h.all u (BS _ F)⟩,by rw[<- q];exact h.all v (by simp)⟩
theorem Lnm.pop (h:Lnm H l qs nss) (j:qs[k]? = some q) (V:nss[k]? = some (ns++[n])) (W:H q=some (.lst (ls++[v]))) (nm:NmL H (ls++[v]) (ns++[n])) (F:But [q] H H') (e:H' q=some (.lst ls)):Lnm H' l qs (nss.set k ns):=by
 have Y:=kept W F
 have M:∀ c,c≠q->c∉[q]:=λ c n=>by rw[BD];exact n
 have tk:∀ c xs,H c=some (.tup xs)->H' c=some (.tup xs):=λ c xs e=>Y _ _ e (λ _ z=>by cases z)
 refine⟨F _ _ (M _ (λ z=>h.ne (by rw[z];exact BJ j))) h.self,by rw[DU];exact h.len,h.nd,h.ne,λ i c Z a b=>?_⟩
 by_cases z:k=i
 ·subst z
  rw[B8 (BE.mp V).1] at b
  cases b
  rw[j] at a;cases a
  exact⟨ls,e,nm.last.1.keep tk⟩
 ·rw[Cp z] at b
  obtain⟨J,O,U⟩:=h.at' i c Z a b
  refine⟨J,F _ _ (M _ λ y=>z ?_) O,U.keep tk⟩
  exact(C2 (l:=qs) (BE.mp j).1 h.nd).mp (by rw[j,a,y])
noncomputable def xM (K:W.Frag) (t:Adr):Sp:=λ vs H Q _=>∃ G L A n f fs,vs=[.ref L.p,.ref f]/\Lo K t G H L A n/\n<=30/\SqL K H f (iV fs) /\
 ∀ p l pa ln ls ns H',aL H H'->H' p=some (.tup [.ref l,.ref pa])->H' l=some (.lst (iV ln))->H' pa=some (.lst ls)->NmL H' ls ns->Gl A fs ln->(Quiet A fs->ln=plF A/\ns=[])->Q (.ref p) H'
theorem jG (T:Txt K mg t):bB P w K mg base (CXr P w) 7 t.f_az t.fd_az ["loom","fallen"] (xM K t):=by
 refine T.F_az.okN i9 (λ vs H Q E h=>?_) (λ cdv A outer s H vs Q E hr h=>?_)
 ·obtain⟨G,L,A,n,f,fs,rfl,_⟩:=h;rfl
 ·obtain⟨G,L,A,n,f,fs,rfl,lo,hn,hf,k⟩:=h
  refine⟨_,(aH (aW (i:=2) i9.nd rfl (Or.inl rfl) (fm T.mk_Descent (zL (K:=K) T) (hr.mono (by decide)) rfl T.mg_Descent T.b_bf .nil aK (aI (pv 0) (aI (pv 1) aG))))
   (aH (aW (i:=3) i9.nd rfl (Or.inl rfl) (aV (zP (K:=K) T) (hr.mono (by decide)) rfl T.mg_bh T.kp_bh T.b_bh .nil aK (aI (pv 0) aG)))
   (aH (aW (i:=4) i9.nd rfl (Or.inl rfl) (cG aG))
   (aH (aW (i:=5) i9.nd rfl (Or.inl rfl) (aV (vg (K:=K) T) (hr.mono (by decide)) rfl T.mg_aj T.kp_aj T.b_aj .nil aK (aI (pv 3) (aI (aU (pv 2) T.cl_Descent T.me_an (oj (K:=K) T) (hr.mono (by decide)) T.b_an .nil aK) aG))))
   (aH (lZ PassesOwn.never (bA kD (pv 5) gJ (bD _))
    (aH (aW (i:=6) i9.nd rfl (Or.inl rfl) (nY (K:=K) Cc PySem.F.slot_list_pop PySem.F.type_list_pop q5 (bb (aZ (K:=K)) (pv 3) (pv 5) (λ _ _=>rfl))))
   (aH (bQ (cI (bj (pv 2) T.cl_Descent T.me_ac (xv (K:=K) T) (hr.mono (by decide)) T.b_ac .nil aK (aI (pv 6) aG)))
    (aH (bQ (cY (cI (bj (pv 2) T.cl_Descent T.me_ai (yN (K:=K) T) (hr.mono (by decide)) T.b_ai .nil aK (aI (pv 6) aG))))
    (aJ il)
    bu)
   (aH (bh (bj (pv 2) T.cl_Descent T.me_bg (zE (K:=K) T) (hr.mono (by decide)) T.b_bg .nil aK (aI (pv 6) aG)))
   (aJ (bh (cF (K:=K) Cc Cm Ck bM (pv 4) (aI (pv 6) aG))))))
    bu)
   (aJ (aW (i:=5) i9.nd rfl (Or.inl rfl) (aV (vg (K:=K) T) (hr.mono (by decide)) rfl T.mg_aj T.kp_aj T.b_aj .nil aK (aI (pv 3) (aI (aU (pv 2) T.cl_Descent T.me_an (oj (K:=K) T) (hr.mono (by decide)) T.b_an .nil aK) aG))))))))
   (aJ (aR (cf (aI (aU (pv 2) T.cl_Descent T.me_an (oj (K:=K) T) (hr.mono (by decide)) T.b_an .nil aK) (aI (pv 4) aG)))))))))),?_⟩
  refine sq λ rr1 ee1=>?_
  have m2:=lo.m2
  have tb:=lo.ta hn
  have sm:∀ e∈A.A.ta,Small e.1:=λ e he=>(tb.2 e he).1
  refine⟨_,rfl,_,rfl,λ d dx nd ndx nex=>?_⟩
  have s1:=aL.ins (o:=.ins t.c_Descent dx []) nd ndx
  refine⟨H,G,L,A,n,f,fs,d,dx,rfl,s1,nd,aD,lo,hn,hf,λ D xss H2 ed s2 fq de lx al=>⟨rfl,?_⟩⟩
  refine(sn ee1 λ rr2 ee2=>?_:rr1 _ _ _)
  subst ed
  refine⟨_,rfl,G,L,A,n,rfl,lo.same s2,hn,λ u us ns H3 s3 nu fus ll as pm=>?_⟩
  refine(sn ee2 λ rr3 ee3=>?_:rr2 _ _ _)
  obtain⟨iv,qu⟩:=Iv.start lo.c.len2 lo.tw lo.wf lx al as pm
  have l90:((cL A.many ns).map List.length).sum<=90:=vN ns (by rw[pm.length_eq,BB];exact tb.1)
  have de3:=de.same s3
  refine⟨by decide,λ pa npa=>?_⟩
  have s4:=aL.new (o:=.lst []) npa
  have epa:=aD (H:=H3) (a:=pa) (o:=.lst [])
  generalize upd H3 pa (.lst [])=H4 at s4 epa ⊢
  have de4:=de3.same s4
  have ll4:=ll.same s4
  have s04:=(s2.trans s3).trans s4
  have npa0:H pa=none:=(s2.trans s3).free npa
  have nus:∀ q∈us,q∉D.qs/\q≠D.al/\H q=none:=λ q hq=>by
   have h:=fus q hq
   refine⟨λ z=>?_,λ z=>?_,s2.free h⟩
   ·obtain⟨j,hj,e⟩:=B2 z
    have:=de.lls.at' j q _ (by rw[<- e];exact Bz hj) (Bz (by rw[<- de.lls.len];exact hj))
    rw[h] at this;cases this
   ·rw[z,de.lls.self] at h;cases h
  have uqs:u∉D.qs/\u≠D.al:=by
   refine⟨λ z=>?_,λ z=>?_⟩
   ·obtain⟨j,hj,e⟩:=B2 z
    have:=de.lls.at' j u _ (by rw[<- e];exact Bz hj) (Bz (by rw[<- de.lls.len];exact hj))
    rw[nu] at this;cases this
   ·rw[z,de.lls.self] at nu;cases nu
  have paq:pa∉D.qs/\pa≠D.al/\pa∉us/\pa≠u:=by
   refine⟨λ z=>?_,λ z=>?_,λ z=>?_,λ z=>?_⟩
   ·obtain⟨j,hj,e⟩:=B2 z
    have:=de3.lls.at' j pa _ (by rw[<- e];exact Bz hj) (Bz (by rw[<- de.lls.len];exact hj))
    rw[npa] at this;cases this
   ·rw[z,de3.lls.self] at npa;cases npa
   ·obtain⟨j,hj,e⟩:=B2 z
    obtain⟨ls,this,_⟩:=ll.at' j pa _ (by rw[<- e];exact Bz hj) (Bz (by rw[<- ll.len];exact hj))
    rw[npa] at this;cases this
   ·rw[z,ll.self] at npa;cases npa
  have nex':∀ {xss:List (List Int)} {nss:List (List Nm3)},Iv A fs xss nss->∀ xs∈xss,xs≠[]:=λ{xss nss} v xs hx=>by
   obtain⟨i,hi,e⟩:=B2 hx
   obtain⟨⟨r,hr⟩,_⟩:=v.p1 i xs (by rw[<- e];exact Bz hi)
   rw[hr];simp
  have snd:∀ {xss:List (List Int)} {nss:List (List Nm3)},Iv A fs xss nss->∀ (h:Nat) ns,nss[h]? = some ns->∀ n∈ns,n.1=(h:Int):=λ{xss nss} v h ns e n hn=>((v.n1 h ns e).2 n hn).1
  refine(sn ee3 λ rr4 ee4=>?_:rr3 _ _ _)
  refine⟨_,rfl,_,rfl,D.d,D.dx,_,rfl,de4.self,rfl,D,A.A,xss,rfl,de4,by lia,nex' iv,λ l5 H5 s5 nl5 el5=>?_⟩
  refine⟨u,us,_,l5,xss.map cq,rfl,ll4.same s5,SqL.of el5,by rw[BB,iv.lx,iv.ln],by rw[iv.ln];lia,snd iv,λ sv H6 s6 sg=>?_⟩
  have s46:=s5.trans s6
  refine(sn ee4 λ rr5 ee5=>?_:rr4 _ _ _)
  refine⟨λ m σ H'=>∃ xss nss ls ns' v o,m=(nss.map List.length).sum/\Iv A fs xss nss/\De t H' D A.A xss/\Lnm H' u us nss/\H' pa=some (.lst ls)/\NmL H' ls ns'/\ls.length+(nss.map List.length).sum<=90/\aL H H'/\SgO nss (xss.map cq) v/\(Quiet A fs->xss.map cq=plF A/\ns'=[])/\σ=[some (.ref L.p),some (.ref f),some (.ref D.d),some (.ref u),some (.ref pa),some v,o],⟨_,xss,_,[],[],sv,_,rfl,iv,de4.same s46,ll4.same s46,s46 _ _ epa,.nil,by simpa using l90,s04.trans s46,sg,λ q=>⟨qu q,rfl⟩,rfl⟩,?_⟩
  rintro m σ H7 ⟨xss,nss,ls,ns',v,o,rfl,iv,de,ll,hpa,nmp,l90,s7,sg,qui,rfl⟩
  refine⟨_,rfl,rfl,_,rfl,eC (λ z=>?_) λ z=>?_⟩
  ·rcases sg with ⟨h,ms,x,rfl,hh,lt⟩|⟨rfl,_⟩
   rotate_left
   ·exact absurd z (by decide)
   have hlt:h<A.many:=by have:=(BE.mp hh).1;rw[iv.ln] at this;exact this
   obtain⟨q,hq⟩:∃ q,us[h]? = some q:=⟨_,Bz (by rw[ll.len,iv.ln];exact hlt)⟩
   obtain⟨ls1,eq1,nm1⟩:=ll.at' h q _ hq hh
   have nl1:ls1≠[]:=λ y=>by have:=nm1.len;rw[y] at this;simp at this
   obtain⟨ks,w0,rfl⟩:=dh nl1
   obtain⟨b,rfl,hb⟩:=nm1.last.2
   obtain⟨e,he,ee⟩:=BV.mp ((iv.n1 h _ hh).2 x (by simp)).2
   have xh:x.1=(h:Int):=snd iv h _ hh x (by simp)
   have qin:=BJ hq
   have atq:atI (us.map V.ref) (h:Int)=some (.ref q):=cM (by rw[BC,hq];rfl)
   refine⟨λ σ2 H2=>∃ m',m'<(nss.map List.length).sum/\∃ xss nss ls ns' v o,m'=(nss.map List.length).sum/\Iv A fs xss nss/\De t H2 D A.A xss/\Lnm H2 u us nss/\H2 pa=some (.lst ls)/\NmL H2 ls ns'/\ls.length+(nss.map List.length).sum<=90/\aL H H2/\SgO nss (xss.map cq) v/\(Quiet A fs->xss.map cq=plF A/\ns'=[])/\σ2=[some (.ref L.p),some (.ref f),some (.ref D.d),some (.ref u),some (.ref pa),some v,o],λ _ _ h=>h,?_⟩
   refine⟨_,rfl,_,rfl,u,_,_,_,rfl,rfl,SqL.of ll.self,atq,.inl ⟨rfl,_,SqL.of eq1⟩,q,_,.ref b,rfl,rfl,eq1,by rw[BL,B3,Nat.add_sub_cancel,B5 (Nat.le_refl _),CV];rfl,?_⟩
   rw[List.dropLast_concat]
   have b8:But [q] H7 (upd H7 q (.lst ks)):=λ c o n e=>by rw[aE (by simpa using n)];exact e
   have eq8:=aD (H:=H7) (a:=q) (o:=.lst ks)
   generalize upd H7 q (.lst ks)=H8 at b8 eq8 ⊢
   have kd8:=kept eq1 b8
   have tk8:∀ c xs,H7 c=some (.tup xs)->H8 c=some (.tup xs):=λ c xs e=>kd8 _ _ e (λ _ z=>by cases z)
   have de8:=de.but eq1 b8 (nus q qin).2.1 (nus q qin).1
   have ll8:=ll.pop hq hh eq1 nm1 b8 eq8
   have hpa8:H8 pa=some (.lst ls):=b8 _ _ (by rw[BD];exact λ z=>paq.2.2.1 (by rw[z];exact qin)) hpa
   have nmp8:=nmp.keep tk8
   have hb8:=tk8 _ _ hb
   have s8:aL H H8:=λ c o e=>b8 _ _ (by rw[BD];exact aF e (nus q qin).2.2) (s7 _ _ e)
   have sms:=sum_set hh
   have quf:¬ Quiet A fs:=λ y=>by
    obtain⟨y1,_⟩:=qui y
    obtain⟨l,hl,el,_⟩:=lo.wf.tp e he
    have r:=(lo.wf.rg l hl).2.2.2.1
    rw[el,ee,xh] at r
    rw[y1] at lt
    have:bW (plF A) (h:Int)=cnt A.ths (h:Int):=by
     unfold bW cnt plF
     rw[BC]
     cases A.ths[((h:Nat):Int).toNat]? <;> rfl
    lia
   rw[<- ee] at hb8
   have few:xss.length<=5:=by rw[iv.lx];lia
   refine⟨_,rfl,D.d,D.dx,_,rfl,de8.self,rfl,_,rfl,D,A.A,xss,A.many,cnt A.ths,b,e,rfl,de8,lo.wf,by rw[iv.lx],few,nex' iv,he,hb8,λ H9 s9=>⟨_,rfl,eC (λ z2=>?_) λ z2=>?_⟩⟩
   ·have us':A.A.eE (xss.map cq) e=true/\dB (xss.map cq) e.1=false:=by simpa using z2
    obtain⟨l,hl,el,_⟩:=lo.wf.tp e he
    have r:=lo.wf.rg l hl
    have to:A.A.eM e.1=l.to:=by rw[<- el];exact gx lo.wf.nd hl
    obtain⟨j,hj⟩:=Cd r.2.2.2.2.2.2.1
    have jlt:j<A.many:=by lia
    obtain⟨xs,hx⟩:∃ xs,xss[j]? = some xs:=⟨_,Bz (by rw[iv.lx];exact jlt)⟩
    obtain⟨⟨r0,hr0⟩,asc⟩:=iv.p1 j xs hx
    subst hr0
    obtain⟨qk,hqk⟩:∃ q,D.qs[j]? = some q:=⟨_,Bz (by rw[de8.lls.len,iv.lx];exact jlt)⟩
    have tj:(A.A.eM e.1).toNat=j:=by rw[to,hj,Cg]
    have de9:=de8.same s9
    have hb9:=s9 _ _ hb8
    have e1:=lo.wf.t1 e he
    have qkin:=BJ hqk
    refine⟨_,rfl,D.d,D.dx,_,rfl,de9.self,rfl,_,rfl,D,A.A,xss,A.many,cnt A.ths,b,e,0,r0,rfl,de9,lo.wf,he,hb9,by rw[tj];exact hx,_,rfl,cj (by rw[Cu (by lia)];rfl) ?_⟩
    refine⟨_,rfl,D.d,D.dx,_,rfl,de9.self,rfl,_,rfl,D,A.A,xss,A.many,cnt A.ths,b,e,0,r0,qk,rfl,de9,lo.wf,he,hb9,by rw[tj];exact hx,by rw[tj];exact hqk,asc,by lia,λ H10 b10 e10=>?_⟩
    have hqk9:=de9.lls.at' j qk _ hqk hx
    have kd10:=kept hqk9 b10
    have tk10:∀ c xs,H9 c=some (.tup xs)->H10 c=some (.tup xs):=λ c xs e=>kd10 _ _ e (λ _ z=>by cases z)
    have de10:=de9.set hqk hx b10 e10
    have ll10:=(ll8.same s9).but hqk9 b10 (λ z=>uqs.1 (by rw[<- z];exact qkin)) (λ z=>(nus qk z).1 qkin)
    have hpa10:H10 pa=some (.lst ls):=b10 _ _ (by rw[BD];exact λ z=>paq.1 (by rw[z];exact qkin)) (s9 _ _ hpa8)
    have nmp10:=(nmp8.same s9).keep tk10
    have s10:aL H H10:=λ c o e=>b10 _ _ (by rw[BD];exact aF e (fq qk qkin)) (s9 _ _ (s8 _ _ e))
    refine⟨_,rfl,.inl ⟨rfl,_,SqL.of hpa10⟩,_,rfl,pa,ls,.ref b,rfl,rfl,hpa10,bg (by lia),?_⟩
    have b11:But [pa] H10 (upd H10 pa (.lst (ls++[.ref b]))):=λ c o n e=>by rw[aE (by simpa using n)];exact e
    have epa11:=aD (H:=H10) (a:=pa) (o:=.lst (ls++[.ref b]))
    generalize upd H10 pa (.lst (ls++[.ref b]))=H11 at b11 epa11 ⊢
    have kd11:=kept hpa10 b11
    have tk11:∀ c xs,H10 c=some (.tup xs)->H11 c=some (.tup xs):=λ c xs e=>kd11 _ _ e (λ _ z=>by cases z)
    have de11:=de10.but hpa10 b11 paq.2.1 paq.1
    have ll11:=ll10.but hpa10 b11 paq.2.2.2 paq.2.2.1
    have nmp11:=(nmp10.snoc ⟨b,rfl,tk10 _ _ hb9⟩).keep tk11
    have s11:aL H H11:=λ c o e=>b11 _ _ (by rw[BD];exact aF e npa0) (s10 _ _ e)
    have iv11:=iv.step lo.wf he (by rw[ee];exact hh) (by rw[to,hj]) hx us'.1 us'.2
    refine⟨_,rfl,_,rfl,D.d,D.dx,_,rfl,de11.self,rfl,D,A.A,_,rfl,de11,by rw[DU];exact few,nex' iv11,λ l12 H12 s12 nl12 el12=>?_⟩
    refine⟨u,us,_,l12,_,rfl,ll11.same s12,SqL.of el12,by rw[BB,iv11.lx,iv11.ln],by rw[iv11.ln];lia,snd iv11,λ sv H13 s13 sg=>?_⟩
    have s1113:=s12.trans s13
    exact⟨_,sms,_,_,_,_,_,_,rfl,iv11,de11.same s1113,ll11.same s1113,s1113 _ _ epa11,nmp11.same s1113,by rw[BL,B3];lia,s11.trans s1113,sg,λ y=>absurd y quf,rfl⟩
   ·have sf:dB (xss.map cq) e.1=false:=by
     unfold dB
     rw[ee,xh]
     exact CL (by lia)
    have uf:A.A.eE (xss.map cq) e=false:=by
     rw[sf] at z2
     simpa using z2
    have iv9:=iv.pop lo.wf.nt hh λ d hd ed=>by
     have:d=e:=ju lo.wf.nt hd he (ed.trans ee.symm)
     rw[this,<- ee]
     unfold DiA.eE at uf
     have:=of_decide_eq_false uf
     lia
    have de9:=de8.same s9
    refine⟨_,rfl,_,rfl,D.d,D.dx,_,rfl,de9.self,rfl,D,A.A,_,rfl,de9,few,nex' iv9,λ l12 H12 s12 nl12 el12=>?_⟩
    refine⟨u,us,_,l12,_,rfl,(ll8.same s9).same s12,SqL.of el12,by rw[BB,iv9.lx,iv9.ln],by rw[iv9.ln];lia,snd iv9,λ sv H13 s13 sg=>?_⟩
    have s913:=s12.trans s13
    have s813:=s9.trans s913
    exact⟨_,sms,_,_,_,_,_,_,rfl,iv9,de9.same s913,ll8.same s813,s813 _ _ hpa8,nmp8.same s813,by lia,s8.trans s813,sg,λ y=>absurd y quf,rfl⟩
  ·rcases sg with ⟨h,ms,x,rfl,hh,lt⟩|⟨rfl,nn⟩
   ·exact absurd (by simp) z
   subst ee5
   refine⟨_,rfl,D.d,D.dx,_,rfl,de.self,rfl,D,A.A,xss,rfl,de,by rw[iv.lx];lia,nex' iv,λ l8 H8 s8 nl8 el8=>⟨_,rfl,by show 2<=sizeLine;decide,λ p np=>?_⟩⟩
   have s9:=aL.new (o:=.tup [.ref l8,.ref pa]) np
   exact k p l8 pa _ ls ns' _ ((s7.trans s8).trans s9) aD (s9 _ _ el8) (s9 _ _ (s8 _ _ hpa)) (nmp.same (s8.trans s9)) (iv.done lo.wf sm nn) qui
noncomputable def za (K:W.Frag):Sp:=λ vs H Q _=>∃ (c:Int) (m:Nat),vs=[.int c,.int m]/\0<m/\m<=5/\∀ l fs H',aL H H'->H l=none->H' l=some (.lst (iV fs))->fs.length<=7->Q (.ref l) H'
theorem uL (T:Txt K mg t):bB P w K mg base (CXr P w) 2 t.f_bv t.fd_bv ["_law_cell","_law_many"] (za K):=by
 refine T.F_bv.okN oZ (λ vs H Q E h=>?_) (λ M A outer s H vs Q E W h=>?_)
 ·obtain⟨c,m,rfl,_⟩:=h;rfl
 ·obtain⟨c,m,rfl,m0,m1,k⟩:=h
  refine⟨_,(aH (aW (i:=2) oZ.nd rfl (Or.inl rfl) (cG aG))
   (aH (cZ PassesOwn.never rfl (bS rfl T.no_range (aI (ba b7 (pv 0) aN) aG)) (bq (i:=3) oZ.nd rfl (Or.inl rfl))
    (aH (aW (i:=4) oZ.nd rfl (Or.inl rfl) (ba b7 (aV (nP (K:=K) T) (W.mono (by decide)) rfl T.mg_cd T.kp_cd T.b_cd .nil aK (aI (ba cp (pv 0) aN) (aI (pv 3) (aI aN aG)))) (pv 1)))
   (aJ (bQ (bA (gK (K:=K)) (pv 4) (pv 2) (by with_unfolding_all rfl))
    (aJ (bh (cF (K:=K) Cc Cm Ck bM (pv 2) (aI (pv 4) aG))))
    bu))))
   (aJ (aR (pv 2))))),?_⟩
  refine⟨by decide,λ l q=>?_⟩
  have x0:=CM c (b:=7) (by decide)
  have x1:=Cz c (b:=7) (by decide)
  refine⟨_,rfl,_,_,rfl,rfl,by show (0:Int)<7;decide,c%7,rfl,by lia,by lia,cS (lo:=0) (λ i σ H'=>(∃ fs:List Int,fs.length<=i/\H' l=some (.lst (iV fs))/\aL H H')/\∃ F J,σ=[some (.int c),some (.int m),some (.ref l),F,J]) ⟨⟨[],Nat.le_refl _,aD,aL.new q⟩,_,_,rfl⟩ ?_ ?_⟩
  ·rintro i σ H' hi ⟨⟨fs,Y,j,s'⟩,F,J,rfl⟩
   have V:i<7:=by lia
   refine⟨_,rfl,_,_,rfl,rfl,⟨by decide,by decide⟩,_,rfl,c/7,_,60,rfl,by lia,by lia,by decide,by decide,λ O _ Z d1=>?_⟩
   refine⟨_,rfl,_,_,rfl,rfl,by lia,?_⟩
   have U:(iV fs).all dM=true:=by unfold iV;rw[EH];exact Dy.mpr λ _ _=>rfl
   refine⟨_,rfl,_,rfl,l,iV fs,rfl,.inl (SqL.of j),rfl,U,_,rfl,eC (λ z=>?_) λ z=>?_⟩
   ·refine⟨_,rfl,.inl ⟨rfl,_,SqL.of j⟩,_,rfl,l,_,_,rfl,rfl,j,bg (by unfold iV;rw[BB];lia),⟨fs++[O%m],by rw[BL,B3];lia,by rw[aD,cV],λ c o e=>?_⟩,_,_,rfl⟩
    rw[aE (aF e q)];exact s' _ _ e
   ·exact⟨⟨fs,by lia,j,s'⟩,_,_,rfl⟩
  ·rintro σ H' ⟨⟨fs,Y,j,s'⟩,F,J,rfl⟩
   exact⟨_,rfl,k l fs H' s' q j (by lia)⟩
noncomputable def nmD (n:Nm3):PyData:=.tuple [.int n.1,.int n.2.1,.int n.2.2]
theorem sh {ns:List Nm3}:okD 3 (.list (ns.map nmD)):=.list (n:=2) λ d j=>by
 obtain⟨n,_,rfl⟩:=BV.mp j
 refine .tuple (n:=1) λ d j=>?_
 simp only[BF,BM,Ca] at j
 rcases j with rfl|rfl|rfl<;>exact .int
theorem NmL.rpD (h:NmL H ls ns):bR K H ls (ns.map nmD):=h.rp
theorem lz:∀ {a b:List Int},a.Pairwise (· < ·)->b.Pairwise (· < ·)->(∀ y,y∈a↔y∈b)->a=b
 | [],[],_,_,_=>rfl
 | [],y::b,_,_,h=>absurd ((h y).mpr BR) (by simp)
 | x::a,[],_,_,h=>absurd ((h x).mp BR) (by simp)
 | x::a,y::b,pa,pb,h=>by
  have j:=DR.mp pa
  have F:=DR.mp pb
  have e:x=y:=by
   rcases BF.mp ((h x).mp BR) with q|q
   ·exact q
   ·rcases BF.mp ((h y).mpr BR) with r|r
    ·exact r.symm
    ·have:=F.1 x q
     have:=j.1 y r
     lia
  subst e
  rw[lz j.2 F.2 λ z=>?_]
  constructor
  ·intro J
   rcases BF.mp ((h z).mp (BQ _ J)) with q|q
   ·have:=j.1 z J;lia
   ·exact q
  ·intro J
   rcases BF.mp ((h z).mpr (BQ _ J)) with q|q
   ·have:=F.1 z J;lia
   ·exact q
theorem lH:∀ {F:List Addr}{j:List (List Int)},F.length=j.length->(∀ (i:Nat) q ps,F[i]? = some q->j[i]? = some ps->H q=some (.lst (iV ps)))->bR K H (F.map V.ref) (j.map λ ps=>PyData.list (ps.map PyData.int))
 | [],[],_,_=>.nil
 | q::F,ps::j,l,h=>.cons (.lst (SqL.of (h 0 q ps rfl rfl)) cK) (lH (by simpa using l) λ i q ps a b=>h (i+1) q ps (by simpa using a) (by simpa using b))
 | [],_::_,l,_=>by simp at l
 | _::_,[],l,_=>by simp at l
theorem mj (T:Txt K mg t) {i:Nat}{σ:St}{G H1:Hp}{L:LoL}{A:LoA}{n:Nat}{Q:VK}(h13:i=σ.length) (h1:σ[1]? = some (some (.ref L.p))) (lo:Lo K t G H1 L A n) (hn:n<=30)
  (k:∀ (l:Addr) (qs:List Addr) (pss:List (List Int)) (H':Hp),aL H1 H'->H' l=some (.lst (qs.map V.ref))->bR K H' (qs.map V.ref) (pss.map λ ps=>PyData.list (ps.map PyData.int))->pss.length=A.many->(∀ (i:Nat) T ps,A.ths[i]? = some T->pss[i]? = some ps->qb T ps)->Q (.ref l) H') :
  gS (Itr 0 A.many) 1 (cH i) gY (rC t.c_Loom "points" (uZ K t) [] ER0 (cN 1) (dm (cN i) iR)) σ H1 Q:=by
 subst h13
 have m2:=lo.m2
 have l1:1<σ.length:=(BE.mp h1).1
 refine dZ (n:=A.many) (by lia) λ acc hacc=>⟨λ i σ2 ys H2=>∃ (qs:List Addr) (pss:List (List Int)),ys=qs.map V.ref/\qs.length=i/\pss.length=i/\(∀ (j:Nat) q ps,qs[j]? = some q->pss[j]? = some ps->q≠acc/\H2 q=some (.lst (iV ps)))/\(∀ (i:Nat) T ps,A.ths[i]? = some T->pss[i]? = some ps->qb T ps)/\H2 acc=some (.lst ys)/\aL H1 H2/\∃ ov,σ2=σ++[ov],⟨[],[],rfl,rfl,rfl,(λ j q ps e=>by simp at e),(λ i T ps _ e=>by simp at e),aD,aL.new hacc,_,rfl⟩,?_,?_,?_⟩
 ·rintro i σ2 ys H2 hi ⟨qs,pss,rfl,lq,_⟩
  rw[BB];lia
 ·rintro i σ2 ys H2 hi ⟨qs,pss,rfl,lq,lp,at2,ok,e2,s2,ov,rfl⟩
  have g1:(σ++[some (V.int (0+(i:Int)))])[1]? = some (some (.ref L.p)):=by rw[Cn l1];exact h1
  dsimp only[cH,gY]
  rw[rQ]
  obtain⟨T0,hT⟩:∃ T0,A.ths[i]? = some T0:=⟨_,Bz (by rw[lo.c.len2];exact hi)⟩
  have lo2:=lo.same s2
  refine dF ⟨_,g1,L.p,L.dx,_,rfl,lo2.c.self,rfl,_,sS,G,L,A,n,i,T0,by rw[Fc];rfl,lo2,hn,hT,λ q ps H3 s3 nq eq3 po=>?_⟩
  have nqa:q≠acc:=λ z=>by rw[z,e2] at nq;cases nq
  refine⟨s3 _ _ e2,Nx.mk hi ⟨qs++[q],pss++[ps],by rw[B7];rfl,by rw[BL,lq];rfl,by rw[BL,lp];rfl,λ j c ys h1 h2=>?_,λ j T ys h1 h2=>?_,aD,λ c u e=>?_,_,rfl⟩⟩
  ·rcases DY j i with g|g|g
   ·rw[Cn (by lia)] at h1 h2
    obtain⟨a1,a2⟩:=at2 j c ys h1 h2
    exact⟨a1,by rw[aE a1];exact s3 _ _ a2⟩
   ·subst g
    rw[B5 (by lia),lq,CV] at h1
    rw[B5 (by lia),lp,CV] at h2
    cases h1;cases h2
    exact⟨nqa,by rw[aE nqa];exact eq3⟩
   ·rw[Cv (by rw[BL,B3];lia)] at h1;cases h1
  ·rcases DY j i with g|g|g
   ·rw[Cn (by lia)] at h2
    exact ok j T ys h1 h2
   ·subst g
    rw[B5 (by lia),lp,CV] at h2
    cases h2
    rw[hT] at h1;cases h1
    exact po
   ·rw[Cv (by rw[BL,B3];lia)] at h2;cases h2
  ·rw[aE (aF e hacc)];exact s3 _ _ (s2 _ _ e)
 ·rintro σ2 ys H2 ⟨qs,pss,rfl,lq,lp,at2,ok,e2,s2,ov,rfl⟩
  exact k acc qs pss H2 s2 e2 (lH (by lia) λ j q ps a b=>(at2 j q ps a b).2) lp ok
theorem rK {A:LoA}{p q:List (List Int)}(J:A.ths.length=A.many) (j:p.length=A.many) (F:q.length=A.many) (h1:∀ (i:Nat) T ps,A.ths[i]? = some T->p[i]? = some ps->qb T ps) (h2:∀ (i:Nat) T ps,A.ths[i]? = some T->q[i]? = some ps->qb T ps):p=q:=by
 refine DG λ i=>?_
 by_cases hi:i<A.many
 ·have a:=Bz (l:=p) (i:=i) (by lia)
  have b:=Bz (l:=q) (i:=i) (by lia)
  have c:=Bz (l:=A.ths) (i:=i) (by lia)
  have x:=h1 i _ _ c a
  have y:=h2 i _ _ c b
  rw[a,b,lz x.1 y.1 λ z=>by rw[x.2,y.2]]
 ·rw[Cv (by lia),Cv (by lia)]
theorem nO (h:PyData.canLay0 (.str x)=true):okD n (.str x):=⟨h,by simp[PyData.depth],by simp[noDict]⟩
theorem nR {H:Hp}:∀ {xs:List V},(∀ x∈xs,mT H x)->∃ ds:List PyData,(∀ H',aL H H'->bR K H' (xs.map (mI H)) ds)/\∀ d∈ds,okD 3 d
 | [],_=>⟨[],λ _ _=>.nil,λ d hd=>by cases hd⟩
 | x::xs,h=>by
  obtain⟨ds,h1,h2⟩:=nR λ y hy=>h y (BQ _ hy)
  obtain⟨e,r,pl,rfl,he,hr⟩:=h x BR
  rcases hr with ⟨s,i,er,sk⟩|⟨s,i,b,n,er,eb,sk⟩
  ·refine⟨.tuple [.str s,.int i]::ds,λ H' sm=>?_,λ d hd=>?_⟩
   ·rw[Ce,gc he]
    exact .cons (.tup (SqT.of (sm _ _ er)) (.cons (.str _) (.cons (.int _) .nil))) (h1 H' sm)
   ·rcases BF.mp hd with rfl|hd
    ·refine .tuple (n:=2) λ d hd=>?_
     simp only[BF,BM,Ca] at hd
     rcases hd with rfl|rfl
     ·exact nO (by simp[PyData.canLay0,sk])
     ·exact .int
    ·exact h2 d hd
  ·refine⟨.tuple [.str s,.int i,nmD n]::ds,λ H' sm=>?_,λ d hd=>?_⟩
   ·rw[Ce,gc he]
    exact .cons (.tup (SqT.of (sm _ _ er)) (.cons (.str _) (.cons (.int _) (.cons (.tup (SqT.of (sm _ _ eb)) (.cons (.int _) (.cons (.int _) (.cons (.int _) .nil)))) .nil)))) (h1 H' sm)
   ·rcases BF.mp hd with rfl|hd
    ·refine .tuple (n:=2) λ d hd=>?_
     simp only[BF,BM,Ca] at hd
     rcases hd with rfl|rfl|rfl
     ·exact nO (by simp[PyData.canLay0,sk])
     ·exact .int
     ·refine .tuple (n:=1) λ d hd=>?_
      simp only[BF,BM,Ca] at hd
      rcases hd with rfl|rfl|rfl<;>exact .int
    ·exact h2 d hd
theorem AlY.mono (h:AlY T p y) (f:p->q):AlY T q y:=h.imp id λ z=>⟨f z.1,z.2⟩
theorem AlW.mono (h:AlW A f s) (m:∀ i:Nat,(i:Int)∉f->(i:Int)∉g):AlW A g s:=⟨h.1,λ i T y a b=>(h.2 i T y a b).mono (m i)⟩
theorem Gl.le {A:LoA}{f g:List Int}{n:Nat}(j:∀ T∈A.ths,TWf n T) (q:A.ths.length=A.many) (h:Gl A f g) {i:Nat}(hi:i<A.many):bW g i<=bW (plF A) i:=by
 have a:=Bz (l:=g) (i:=i) (by rw[h.1.1];exact hi)
 have c:=Bz (l:=A.ths) (i:=i) (by lia)
 have:=((h.1.2 i _ _ c a).rg (j _ (BJ c))).2
 rw[dv a,dv (ln:=plF A) (y:=A.ths[i].evs.length) (by unfold plF;rw[BC,c];rfl)]
 exact this
theorem Gl.both {A:LoA}{f1 f2 f3 g1 g2 g3:List Int}{n:Nat}(tw:∀ T∈A.ths,TWf n T) (lt:A.ths.length=A.many) (wf:WfD A.many (cnt A.ths) A.A) (h1:Gl A f1 g1) (h2:Gl A f2 g2) (h3:Gl A f3 g3) (m:∀ i:Nat,(i:Int)∉f3↔(i:Int)∉f1/\(i:Int)∉f2) {i:Nat}(hi:i<A.many):bW g3 i=min (bW g1 i) (bW g2 i):=by
 have a1:=h1.2.2 g3 (h3.1.mono λ j z=>((m j).mp z).1) h3.2.1 i hi
 have a2:=h2.2.2 g3 (h3.1.mono λ j z=>((m j).mp z).2) h3.2.1 i hi
 have ll:g1.length=g2.length:=by rw[h1.1.1,h2.1.1]
 have sd:=(sM wf (by rw[h1.1.1]) ll h1.2.1 h2.2.1).2
 have al:AlW A f3 (jV g1 g2):=by
  refine⟨by unfold jV;rw[uv min ll];exact h1.1.1,λ j T y hT hy=>?_⟩
  have hj:j<A.many:=by have:=(BE.mp hT).1;lia
  have w:=tw T (BJ hT)
  obtain⟨u1,b1⟩:∃ u,g1[j]? = some u:=⟨_,Bz (by rw[h1.1.1];exact hj)⟩
  obtain⟨u2,b2⟩:∃ u,g2[j]? = some u:=⟨_,Bz (by rw[h2.1.1];exact hj)⟩
  have c1:=h1.1.2 j T _ hT b1
  have c2:=h2.1.2 j T _ hT b2
  have e:y=min u1 u2:=by
   have:=dv hy
   unfold jV at this
   rw[dJ min ll (by lia) (by rw[h1.1.1];lia),dv b1,dv b2] at this
   exact this.symm
  have r1:=(c1.rg w).2
  have r2:=(c2.rg w).2
  rcases Int.le_total u1 u2 with le|le
  ·rw[e,Int.min_eq_left le]
   rcases c1 with z|⟨z1,z2⟩
   ·exact .inl z
   ·have:u2=u1:=by lia
    rcases c2 with y|⟨y1,y2⟩
    ·rw[<- this];exact .inl y
    ·exact .inr ⟨(m j).mpr ⟨z1,y1⟩,z2⟩
  ·rw[e,Int.min_eq_right le]
   rcases c2 with z|⟨z1,z2⟩
   ·exact .inl z
   ·have:u1=u2:=by lia
    rcases c1 with y|⟨y1,y2⟩
    ·rw[<- this];exact .inl y
    ·exact .inr ⟨(m j).mpr ⟨y1,z1⟩,z2⟩
 have a3:=h3.2.2 _ al sd i hi
 unfold jV at a3
 rw[dJ min ll (by lia) (by rw[h1.1.1];lia)] at a3
 lia
theorem Gl.whole (h:Gl A f g) (q:Gl A fw gw) (m:∀ i:Nat,i<A.many->(i:Int)∈fw) (M:A.ths.length=A.many) (hi:i<A.many):bW gw i<=bW g i:=
 h.2.2 gw ⟨q.1.1,λ j T y F J=>(q.1.2 j T y F J).mono λ z=>absurd (m j (by have:=(BE.mp F).1;lia)) z⟩ q.2.1 i hi
noncomputable def vr (K:W.Frag) (ts:List Addr):Sp:=λ vs H Q _=>∃ a ns,vs=[.ref a]/\SqL K H a (iV ns)/\ns.length<=63/\(∀ P∈ts,H P=some (.tbl #[]))/\∀ H,Q (.bl true) H
set_option maxHeartbeats 4000000 in
theorem wD (T:Txt K mg t) (Tb:x8 mg base t):bB P w K mg base (CXr P w) 9 t.f_law t.fd_law ["_law_script"] (vr K t.ts):=by
 refine T.F_law.okN cR (λ vs H Q E h=>?_) (λ cdv A outer s H vs Q E hr h=>?_)
 ·obtain⟨a,ns,rfl,_⟩:=h;rfl
 ·obtain⟨a,ns,rfl,hS,len,hT,k⟩:=h
  refine⟨_,(aH (aW (i:=1) cR.nd rfl (Or.inr rfl) (aV (xN (K:=K) T Tb) (hr.mono (by decide)) rfl T.mg_cp T.kp_cp T.b_cp .nil aK (aI (pv 0) aG)))
   (aH (aW (i:=2) cR.nd rfl (Or.inl rfl) (aU (pv 1) T.cl_Loom T.me_br (vf (K:=K) T) (hr.mono (by decide)) T.b_br .nil aK))
   (aH (aW (i:=3) cR.nd rfl (Or.inl rfl) (cf (aI (aU (pv 1) T.cl_Loom T.me_cq (vw (K:=K) T) (hr.mono (by decide)) T.b_cq .nil aK) (aI (aU (pv 1) T.cl_Loom T.me_cn (qX (K:=K) T) (hr.mono (by decide)) T.b_cn .nil aK) (aI (aU (pv 1) T.cl_Loom T.me_bt (u0 (K:=K) T) (hr.mono (by decide)) T.b_bt .nil aK) (aI (cC ["_law_script","_law_loom_here","_law_places","_law_before","_law_one","_law_other","_law_first","_law_second","_law_both","_law_whole","~_law_hand","_law_habits_here","_law_sure","_law_hand"] 1 rfl (bS rfl T.no_range (aI (aO (K:=K) (pv 1) rfl) aG)) (λ _ _ _ _ _=>⟨(bq (i:=13) (show List.Nodup (["_law_script","_law_loom_here","_law_places","_law_before","_law_one","_law_other","_law_first","_law_second","_law_both","_law_whole","~_law_hand","_law_habits_here","_law_sure","_law_hand"]:List Str) from by decide +kernel) rfl (Or.inl rfl)),cP,(bj (pv 1) T.cl_Loom T.me_bu (rf (K:=K) T) (hr.mono (by decide)) T.b_bu .nil aK (aI (pv 13) aG))⟩)) aG))))))
   (aH (aW (i:=4) cR.nd rfl (Or.inr rfl) (aV (uL (K:=K) T) (hr.mono (by decide)) rfl T.mg_bv T.kp_bv T.b_bv .nil aK (aI (aV (ip (K:=K) T) (hr.mono (by decide)) rfl T.mg_bd T.kp_bd T.b_bd .nil aK (aI (pv 0) (aI aN aG))) (aI (aO (K:=K) (pv 1) rfl) aG))))
   (aH (aW (i:=5) cR.nd rfl (Or.inl rfl) (aV (uL (K:=K) T) (hr.mono (by decide)) rfl T.mg_bv T.kp_bv T.b_bv .nil aK (aI (aV (ip (K:=K) T) (hr.mono (by decide)) rfl T.mg_bd T.kp_bd T.b_bd .nil aK (aI (pv 0) (aI aN aG))) (aI (aO (K:=K) (pv 1) rfl) aG))))
   (aH (aW (i:=6) cR.nd rfl (Or.inl rfl) (bb (bz (K:=K)) (aV (jG (K:=K) T) (hr.mono (by decide)) rfl T.mg_az T.kp_az T.b_az .nil aK (aI (pv 1) (aI (pv 4) aG))) aN (λ _ _=>rfl)))
   (aH (aW (i:=7) cR.nd rfl (Or.inl rfl) (bb (bz (K:=K)) (aV (jG (K:=K) T) (hr.mono (by decide)) rfl T.mg_az T.kp_az T.b_az .nil aK (aI (pv 1) (aI (pv 5) aG))) aN (λ _ _=>rfl)))
   (aH (aW (i:=8) cR.nd rfl (Or.inl rfl) (bb (bz (K:=K)) (aV (jG (K:=K) T) (hr.mono (by decide)) rfl T.mg_az T.kp_az T.b_az .nil aK (aI (pv 1) (aI (ba wj (pv 4) (cC ["_law_script","_law_loom_here","_law_places","_law_before","_law_one","_law_other","_law_first","_law_second","_law_both","_law_whole","~_law_hand","_law_habits_here","_law_sure","_law_hand"] 1 rfl (cX (K:=K) (pv 5)) (λ _ _ _ _ _=>⟨(bq (i:=13) (show List.Nodup (["_law_script","_law_loom_here","_law_places","_law_before","_law_one","_law_other","_law_first","_law_second","_law_both","_law_whole","~_law_hand","_law_habits_here","_law_sure","_law_hand"]:List Str) from by decide +kernel) rfl (Or.inl rfl)),(kj (bA (gK (K:=K)) (pv 13) (pv 4) (by with_unfolding_all rfl))),(pv 13)⟩))) aG))) aN (λ _ _=>rfl)))
   (aH (aW (i:=9) cR.nd rfl (Or.inl rfl) (bb (bz (K:=K)) (aV (jG (K:=K) T) (hr.mono (by decide)) rfl T.mg_az T.kp_az T.b_az .nil aK (aI (pv 1) (aI (bX (jf rfl) rfl T.no_list nB (aI (bX qp rfl T.no_range oS (aI (aO (K:=K) (pv 1) rfl) aG)) aG)) aG))) aN (λ _ _=>rfl)))
   (aH (cZ PassesOwn.never rfl (bS rfl T.no_range (aI (aO (K:=K) (pv 1) rfl) aG)) (bq (i:=10) cR.nd rfl (Or.inl rfl))
    (aJ (bQ (PW.pt (fP (bA rN (bb (aZ (K:=K)) (pv 8) (pv 10) (λ _ _=>rfl)) (bP (pN rfl) rfl T.no_min vy (aI (bb (aZ (K:=K)) (pv 6) (pv 10) (λ _ _=>rfl)) (aI (bb (aZ (K:=K)) (pv 7) (pv 10) (λ _ _=>rfl)) aG))) (bD _)) (fP (bA oR (bb (aZ (K:=K)) (pv 9) (pv 10) (λ _ _=>rfl)) (bb (aZ (K:=K)) (pv 8) (pv 10) (λ _ _=>rfl)) (bD _)) (gB (bA oR (bb (aZ (K:=K)) (pv 6) (pv 10) (λ _ _=>rfl)) (bb (aZ (K:=K)) (pv 2) (pv 10) (λ _ _=>rfl)) (bD _))))))
    (aJ (aR eZ))
    bu)))
   (aH (bQ (bA (oH (K:=K) hr.units) (aV (jG (K:=K) T) (hr.mono (by decide)) rfl T.mg_az T.kp_az T.b_az .nil aK (aI (pv 1) (aI (cG aG) aG))) (cf (aI (pv 2) (aI (cG aG) aG))) (bD _))
    (aJ (aR eZ))
    bu)
   (aH (aW (i:=11) cR.nd rfl (Or.inr rfl) (aV (uO (K:=K) T) (hr.mono (by decide)) rfl T.mg_bs T.kp_bs T.b_bs .nil aK (aI (aV (ip (K:=K) T) (hr.mono (by decide)) rfl T.mg_bd T.kp_bd T.b_bd .nil aK (aI (pv 0) (aI aN aG))) (aI (aO (K:=K) (pv 1) rfl) aG))))
   (aH (ji ["_law_script","_law_loom_here","_law_places","_law_before","_law_one","_law_other","_law_first","_law_second","_law_both","_law_whole","~_law_hand","_law_habits_here","_law_sure","_law_hand"] 1 (i:=12) rfl cR.nd rfl (Or.inl rfl) (bS rfl T.no_range (aI (aO (K:=K) (pv 1) rfl) aG)) (λ _ _ _ _ _=>⟨(bq (i:=13) (show List.Nodup (["_law_script","_law_loom_here","_law_places","_law_before","_law_one","_law_other","_law_first","_law_second","_law_both","_law_whole","~_law_hand","_law_habits_here","_law_sure","_law_hand"]:List Str) from by decide +kernel) rfl (Or.inl rfl)),(kj (cI (bP (dc (K:=K)) rfl T.no_isinstance dg (aI (bb (aZ (K:=K)) (pv 11) (pv 13) (λ _ _=>rfl)) (aI (om (v:=.ref t.c_Each) rfl T.mg_Each rfl) aG))))),(pv 13)⟩))
   (aH (bQ (bA (oH (K:=K) hr.units) (aV (jG (K:=K) T) (hr.mono (by decide)) rfl T.mg_az T.kp_az T.b_az .nil aK (aI (pv 1) (aI (pv 12) aG))) (cf (aI (pv 2) (aI (cG aG) aG))) (bD _))
    (aJ (aR eZ))
    bu)
   (aJ (aR (cU (oT (K:=K) hr.units) (cf (aI (aU (pv 1) T.cl_Loom T.me_cq (vw (K:=K) T) (hr.mono (by decide)) T.b_cq .nil aK) (aI (aU (pv 1) T.cl_Loom T.me_cn (qX (K:=K) T) (hr.mono (by decide)) T.b_cn .nil aK) (aI (aU (pv 1) T.cl_Loom T.me_bt (u0 (K:=K) T) (hr.mono (by decide)) T.b_bt .nil aK) (aI (cC ["_law_script","_law_loom_here","_law_places","_law_before","_law_one","_law_other","_law_first","_law_second","_law_both","_law_whole","~_law_hand","_law_habits_here","_law_sure","_law_hand"] 1 rfl (bS rfl T.no_range (aI (aO (K:=K) (pv 1) rfl) aG)) (λ _ _ _ _ _=>⟨(bq (i:=13) (show List.Nodup (["_law_script","_law_loom_here","_law_places","_law_before","_law_one","_law_other","_law_first","_law_second","_law_both","_law_whole","~_law_hand","_law_habits_here","_law_sure","_law_hand"]:List Str) from by decide +kernel) rfl (Or.inl rfl)),cP,(bj (pv 1) T.cl_Loom T.me_bu (rf (K:=K) T) (hr.mono (by decide)) T.b_bu .nil aK (aI (pv 13) aG))⟩)) aG))))) (pv 3) (bD _)))))))))))))))))),?_⟩
  refine sq λ r1 e1=>?_
  refine⟨_,rfl,a,ns,rfl,hS,.inl (hT _ T.tin_cp),λ G H1 L A n hn lo ha hbs=>?_⟩
  refine(sn e1 λ r2 e2=>?_:r1 _ _ _)
  have m2:=lo.m2
  refine⟨_,rfl,L.p,L.dx,_,rfl,lo.c.self,rfl,G,L,A,n,rfl,lo,λ lp H2 s2 nlp elp=>?_⟩
  refine(sn e2 λ r3 e3=>?_:r2 _ _ _)
  obtain⟨lg,elg,_⟩:=lo.lg
  obtain⟨rds,rp,rok⟩:=nR (K:=K) (lo.lr lg elg)
  have lo2:=lo.same s2
  refine⟨_,rfl,L.p,L.dx,_,rfl,lo2.c.self,rfl,G,L,A,n,lg,rfl,lo2,hn,s2 _ _ elg,λ l3 H3 s3 nl3 el3=>?_⟩
  rw[jK s2 (lo.lr lg elg)] at el3
  have s13:=s2.trans s3
  have lo3:=lo.same s13
  refine⟨_,rfl,L.p,L.dx,_,rfl,lo3.c.self,rfl,G,L,A,n,rfl,lo3,hn,λ l4 ls4 ns4 H4 s4 nl4 el4 nm4 as4 pm4=>?_⟩
  have s14:=s13.trans s4
  have lo4:=lo.same s14
  refine⟨_,rfl,L.p,L.dx,_,rfl,lo4.c.self,rfl,G,L,A,n,rfl,lo4,λ l5 H5 s5 nl5 el5=>?_⟩
  have s15:=s14.trans s5
  have lo5:=lo.same s15
  refine⟨_,rfl,L.p,_,L.dx,_,_,rfl,lo5.c.self,T.cl_Loom,T.na_cs,rfl,(A.many:Int),rfl,by lia,by lia,mj T rfl rfl lo5 hn λ l6 qs6 ps6 H6 s6 el6 rp6 lp6 po6=>?_⟩
  refine⟨by show 4<=sizeLine;decide,λ bf nbf=>?_⟩
  have s7:=aL.new (o:=.tup [.ref l3,.ref l4,.ref l5,.ref l6]) nbf
  have ebf:=aD (H:=H6) (a:=bf) (o:=.tup [.ref l3,.ref l4,.ref l5,.ref l6])
  generalize upd H6 bf (.tup [.ref l3,.ref l4,.ref l5,.ref l6])=H7 at s7 ebf ⊢
  have okB:okD 5 (PyData.tuple [.list rds,.list (ns4.map nmD),.list ((A.ths.map λ T=>kU T.first T.evs T.evs.length).map PyData.int),.list (ps6.map λ ps=>PyData.list (ps.map PyData.int))]):=.tuple (n:=4) λ d hd=>by
   simp only[BF,BM,Ca] at hd
   rcases hd with rfl|rfl|rfl|rfl
   ·exact .list (n:=3) rok
   ·exact sh.mono (by decide)
   ·exact .list (n:=3) iQ
   ·refine .list (n:=3) λ d hd=>?_
    obtain⟨ps,_,rfl⟩:=BV.mp hd
    exact .list (n:=2) iQ
  have s67:=s6.trans s7
  have s17:=s15.trans s67
  have rpB:Rp K H7 (.ref bf) (.tuple [.list rds,.list (ns4.map nmD),.list ((A.ths.map λ T=>kU T.first T.evs T.evs.length).map PyData.int),.list (ps6.map λ ps=>PyData.list (ps.map PyData.int))]):=
   .tup (SqT.of ebf) (.cons (.lst (SqL.of (((s4.trans s5).trans s67) _ _ el3)) (rp _ s17)) (.cons (.lst (SqL.of ((s5.trans s67) _ _ el4)) (nm4.same (s5.trans s67)).rpD) (.cons (.lst (SqL.of (s67 _ _ el5)) cK) (.cons (.lst (SqL.of (s7 _ _ el6)) (rp6.same s7)) .nil))))
  have lo7:=lo.same s17
  have ha7:=s17.seq ha
  have elp7:=(((s3.trans s4).trans s5).trans s67) _ _ elp
  clear el3 el4 el5 el6 rp6 nm4 lo2 lo3 lo4 lo5 s13 s14 s15 s67 nl3 nl4 nl5 nlp nbf
  refine(sn e3 λ r4 e4=>?_:r3 _ _ _)
  refine⟨_,rfl,a,ns,4,rfl,ha7,by decide,λ c4 _=>⟨_,rfl,L.p,_,L.dx,_,_,rfl,lo7.c.self,T.cl_Loom,T.na_cs,rfl,c4,A.many,rfl,by lia,m2.2,λ f1 fs1 H8 s8 nf1 ef1 lf1=>?_⟩⟩
  refine(sn e4 λ r5 e5=>?_:r4 _ _ _)
  have s18:=s17.trans s8
  have lo8:=lo.same s18
  refine⟨_,rfl,a,ns,5,rfl,s8.seq ha7,by decide,λ c5 _=>⟨_,rfl,L.p,_,L.dx,_,_,rfl,lo8.c.self,T.cl_Loom,T.na_cs,rfl,c5,A.many,rfl,by lia,m2.2,λ f2 fs2 H9 s9 nf2 ef2 lf2=>?_⟩⟩
  refine(sn e5 λ r6 e6=>?_:r5 _ _ _)
  have s19:=s18.trans s9
  have ef19:=s9 _ _ ef1
  refine⟨_,rfl,_,rfl,G,L,A,n,f1,fs1,rfl,lo.same s19,hn,SqL.of ef19,λ p1 g1 pa1 ln1 lsa1 na1 H10 s10 ep1 eg1 _ _ gl1 _=>⟨p1,_,0,.ref g1,rfl,rfl,SqT.of ep1,rfl,?_⟩⟩
  refine(sn e6 λ r7 e7=>?_:r6 _ _ _)
  have s110:=s19.trans s10
  refine⟨_,rfl,_,rfl,G,L,A,n,f2,fs2,rfl,lo.same s110,hn,SqL.of (s10 _ _ ef2),λ p2 g2 pa2 ln2 lsa2 na2 H11 s11 ep2 eg2 _ _ gl2 _=>⟨p2,_,0,.ref g2,rfl,rfl,SqT.of ep2,rfl,?_⟩⟩
  refine(sn e7 λ r8 e8=>?_:r7 _ _ _)
  have s111:=s110.trans s11
  have s911:=s10.trans s11
  have ef111:=s911 _ _ ef19
  have ef211:=s911 _ _ ef2
  have eg111:=s11 _ _ eg1
  have fl1:(iV fs1).all dM=true:=by unfold iV;rw[EH];exact Dy.mpr λ _ _=>rfl
  refine⟨_,rfl,_,rfl,_,rfl,f2,rfl,⟨_,SqL.of ef211⟩,dk (xs:=iV fs2) (by unfold iV;rw[BB];lia) λ acc hacc=>⟨λ i σ2 ys H'=>ys=iV ((fs2.take i).filter λ y=>decide (y∉fs1))/\H' acc=some (.lst ys)/\aL H11 H'/\∃ o,σ2=[some (.ref a),some (.ref L.p),some (.ref lp),some (.ref bf),some (.ref f1),some (.ref f2),some (.ref g1),some (.ref g2),none,none,none,none,none,o],⟨rfl,aD,aL.new hacc,_,rfl⟩,?_,?_,?_⟩⟩
  ·rintro i σ2 ys H' hi ⟨rfl,_,s',_⟩
   refine⟨SqL.of (s' _ _ ef211),?_⟩
   unfold iV
   rw[BB]
   exact B6 (Dj _ _) (by rw[CB];lia)
  ·rintro i x σ2 ys H' hi hx ⟨rfl,e2,s',o,rfl⟩
   obtain⟨y,hy,rfl⟩:∃ y,fs2[i]? = some y/\x=.int y:=by
    unfold iV at hx
    rw[BC] at hx
    cases e:fs2[i]? with
    | none=>rw[e] at hx;cases hx
    | some y=>rw[e] at hx;cases hx;exact⟨y,rfl,rfl⟩
   have stp:((fs2.take (i+1)).filter λ y=>decide (y∉fs1))=((fs2.take i).filter λ y=>decide (y∉fs1))++(if y∉fs1 then [y] else []):=by
    rw[Dq,hy,EO]
    congr 1
    show List.filter _ [y]=_
    rw[DN]
    by_cases z:y∈fs1<;>simp[z]
   dsimp only[cH]
   refine⟨_,rfl,_,rfl,f1,iV fs1,rfl,.inl (SqL.of (s' _ _ ef111)),rfl,fl1,_,rfl,eC (λ z=>⟨_,rfl,e2,Nx.mk hi ⟨?_,aD,λ c u e=>?_,_,rfl⟩⟩) λ z=>Nx.mk hi ⟨?_,e2,s',_,rfl⟩⟩
   ·rw[BN rfl,fL] at z
    have z':y∉fs1:=by simpa using z
    rw[stp,BN z',cV]
   ·rw[aE (aF e hacc)];exact s' _ _ e
   ·rw[BN rfl,fL] at z
    have z':¬ y∉fs1:=by simpa using z
    rw[stp,BI z',Dr]
  rintro σ2 ys H12 ⟨rfl,e12,s12,o,rfl⟩
  have lf2':(iV fs2).length=fs2.length:=by unfold iV;rw[BB]
  rw[lf2',Eu] at e12
  have lfl:=Dj (λ y=>decide (y∉fs1)) fs2
  refine⟨f1,acc,_,_,rfl,rfl,s12 _ _ ef111,e12,by unfold iV;rw[BB,BB];exact B6 (show _<=20 by lia) (by decide),λ f3 nf3=>?_⟩
  have s13:=aL.new (o:=.lst (iV fs1++iV (fs2.filter λ y=>decide (y∉fs1)))) nf3
  have ef3:=aD (H:=H12) (a:=f3) (o:=.lst (iV fs1++iV (fs2.filter λ y=>decide (y∉fs1))))
  generalize upd H12 f3 (.lst (iV fs1++iV (fs2.filter λ y=>decide (y∉fs1))))=H13 at s13 ef3 ⊢
  rw[show iV fs1++iV (fs2.filter λ y=>decide (y∉fs1))=iV (fs1++fs2.filter λ y=>decide (y∉fs1)) by unfold iV;rw[B7]] at ef3
  have s1113:=s12.trans s13
  have s113:=s111.trans s1113
  refine⟨G,L,A,n,f3,_,rfl,lo.same s113,hn,SqL.of ef3,λ p3 g3 pa3 ln3 lsa3 na3 H14 s14 ep3 eg3 _ _ gl3 _=>⟨p3,_,0,.ref g3,rfl,rfl,SqT.of ep3,rfl,?_⟩⟩
  refine(sn e8 λ r9 e9=>?_:r8 _ _ _)
  have s114:=s113.trans s14
  have lo14:=lo.same s114
  refine⟨_,rfl,_,rfl,L.p,_,L.dx,_,_,rfl,lo14.c.self,T.cl_Loom,T.na_cs,rfl,A.many,rfl,λ r nr=>?_⟩
  have s15:=aL.new (o:=.rng 0 (A.many:Int)) nr
  refine⟨r,0,A.many,rfl,aD,⟨by lia,by lia,by lia,by lia⟩,by lia,λ f4 nf4=>?_⟩
  have s16:=aL.new (o:=.lst (iV (gA 0 (A.many:Int)))) nf4
  have s1416:=s15.trans s16
  have ef4:=aD (H:=upd H14 r (.rng 0 (A.many:Int))) (a:=f4) (o:=.lst (iV (gA 0 (A.many:Int))))
  generalize upd (upd H14 r (.rng 0 (A.many:Int))) f4 (.lst (iV (gA 0 (A.many:Int))))=H16 at s1416 ef4 s16 ⊢
  have s116:=s114.trans s1416
  refine⟨G,L,A,n,f4,_,rfl,lo.same s116,hn,SqL.of ef4,λ p4 g4 pa4 ln4 lsa4 na4 H17 s17' ep4 eg4 _ _ gl4 _=>⟨p4,_,0,.ref g4,rfl,rfl,SqT.of ep4,rfl,?_⟩⟩
  refine(sn e9 λ r10 e10=>?_:r9 _ _ _)
  have s1417:=s1416.trans s17'
  have s117:=s114.trans s1417
  have x3:=s1417 _ _ eg3
  have x2:=((s1113.trans s14).trans s1417) _ _ eg2
  have x1:=((s1113.trans s14).trans s1417) _ _ eg111
  have s717:aL H7 H17:=((((s8.trans s9).trans s911).trans s1113).trans s14).trans s1417
  have x0:=s717 _ _ elp7
  have lo17:=lo.same s117
  have tw:=lo.tw
  have len2:=lo.c.len2
  refine⟨_,rfl,L.p,_,L.dx,_,_,rfl,lo17.c.self,T.cl_Loom,T.na_cs,rfl,(A.many:Int),rfl,by lia,by lia,cS (lo:=0) (λ i σ H'=>H'=H17/\∃ o,σ=[some (.ref a),some (.ref L.p),some (.ref lp),some (.ref bf),some (.ref f1),some (.ref f2),some (.ref g1),some (.ref g2),some (.ref g3),some (.ref g4),o,none,none]) ⟨rfl,_,rfl⟩ ?_ ?_⟩
  ·rintro i σ H' hi ⟨rfl,o,rfl⟩
   have hi':i<A.many:=by lia
   have b1:=gl1.1.1
   have b2:=gl2.1.1
   have b3:=gl3.1.1
   have b4:=gl4.1.1
   have bp:(plF A).length=A.many:=by unfold plF;rw[BB];exact len2
   have at':∀ {ln:List Int},ln.length=A.many->atI (iV ln) (0+(i:Int))=some (.int (bW ln i)):=λ{ln} h=>by
    rw[Fc];exact km (by lia) (by lia)
   have v3:=Gl.both tw len2 lo.wf gl1 gl2 gl3 (λ j=>by
    rw[BH,Cy]
    simp only[DW,C0,not_and,Classical.not_not]
    exact⟨λ z=>⟨z.1,λ y=>z.1 (z.2 y)⟩,λ z=>⟨z.1,λ y=>absurd y z.2⟩⟩) hi'
   have v4:=Gl.whole gl3 gl4 (λ j hj=>eT.mpr ⟨by lia,by lia⟩) len2 hi'
   have v1:=gl1.le tw len2 hi'
   refine⟨_,rfl,_,rfl,g3,_,_,_,rfl,rfl,SqL.of x3,at' b3,_,rfl,_,rfl,g1,_,_,_,rfl,rfl,SqL.of x1,at' b1,_,rfl,_,rfl,g2,_,_,_,rfl,rfl,SqL.of x2,at' b2,_,_,rfl,rfl,_,rfl,cj ?_ ?_⟩
   ·rw[kS,v3];simp;split<;>lia
   refine⟨_,rfl,_,rfl,g4,_,_,_,rfl,rfl,SqL.of eg4,at' b4,_,rfl,_,rfl,g3,_,_,_,rfl,rfl,SqL.of x3,at' b3,_,_,rfl,rfl,_,rfl,cj (CL (by lia)) ?_⟩
   refine⟨_,rfl,_,rfl,g1,_,_,_,rfl,rfl,SqL.of x1,at' b1,_,rfl,_,rfl,lp,_,_,_,rfl,rfl,SqL.of x0,at' bp,_,_,rfl,rfl,_,rfl,cj (CL (Int.not_lt.mpr v1)) ?_⟩
   exact⟨rfl,_,rfl⟩
  ·rintro σ H' ⟨rfl,o,rfl⟩
   refine(sn e10 λ r11 e11=>?_:r10 _ _ _)
   have okP:okD 3 (PyData.tuple [.list ((plF A).map PyData.int),.list []]):=.tuple (n:=2) λ d hd=>by
    simp only[BF,BM,Ca] at hd
    rcases hd with rfl|rfl
    ·exact .list (n:=1) iQ
    ·exact .list (n:=1) λ d hd=>by cases hd
   refine⟨_,rfl,by decide,λ f5 nf5=>?_⟩
   have s18':=aL.new (o:=.lst []) nf5
   have ef5:=aD (H:=H') (a:=f5) (o:=.lst [])
   generalize upd H' f5 (.lst [])=H18 at s18' ef5 ⊢
   refine⟨G,L,A,n,f5,[],rfl,lo.same (s117.trans s18'),hn,SqL.of ef5,λ p5 g5 pa5 ln5 lsa5 na5 H19 s19' ep5 eg5 epa5 nm5 gl5 qu5=>?_⟩
   obtain⟨rfl,rfl⟩:=qu5 λ i T _=>.inl (by simp)
   refine⟨_,rfl,by decide,λ le nle=>?_⟩
   have s20:=aL.new (o:=.lst []) nle
   have ele:=aD (H:=H19) (a:=le) (o:=.lst [])
   generalize upd H19 le (.lst [])=H20 at s20 ele ⊢
   refine⟨by show 2<=sizeLine;decide,λ pt npt=>?_⟩
   have s21:=aL.new (o:=.tup [.ref lp,.ref le]) npt
   have ept:=aD (H:=H20) (a:=pt) (o:=.tup [.ref lp,.ref le])
   generalize upd H20 pt (.tup [.ref lp,.ref le])=H21 at s21 ept ⊢
   have s1921:=s20.trans s21
   have s1721:=(s18'.trans s19').trans s1921
   refine⟨_,_,.tup (SqT.of (s1921 _ _ ep5)) (.cons (.lst (SqL.of (s1921 _ _ eg5)) cK) (.cons (.lst (SqL.of (s1921 _ _ epa5)) (nm5.same s1921).rpD) .nil)),.tup (SqT.of ept) (.cons (.lst (SqL.of (s1721 _ _ x0)) cK) (.cons (.lst (SqL.of (s21 _ _ ele)) .nil) .nil)),okP.shaped (by decide),okP.shaped (by decide),_,rfl,cj (by rw[BN rfl];exact congrArg (λ b=>!b) okP.self) ?_⟩
   refine(sn e11 λ r12 e12=>?_:r11 _ _ _)
   have s121:=s117.trans s1721
   have lo21:=lo.same s121
   refine⟨_,rfl,a,ns,1,rfl,s121.seq ha,by decide,λ c1 ec1=>⟨_,rfl,L.p,_,L.dx,_,_,rfl,lo21.c.self,T.cl_Loom,T.na_cs,rfl,c1,A.many,rfl,m2.2,λ lh has hb H22 s22 nlh elh lh1 lh2 ehb hab=>?_⟩⟩
   refine(sn e12 λ r13 e13=>?_:r12 _ _ _)
   have s122:=s121.trans s22
   have lo22:=lo.same s122
   refine⟨_,rfl,L.p,_,L.dx,_,_,rfl,lo22.c.self,T.cl_Loom,T.na_cs,rfl,(A.many:Int),rfl,by lia,by lia,dZ (n:=A.many) (by lia) λ acc hacc=>⟨λ i σ2 ys H'=>(∃ ss:List Int,ys=iV ss/\ss.length<=i/\∀ j:Nat,(j:Int)∈ss->hb[j]? = some .each)/\H' acc=some (.lst ys)/\aL H22 H'/\∃ o',σ2=[some (.ref a),some (.ref L.p),some (.ref lp),some (.ref bf),some (.ref f1),some (.ref f2),some (.ref g1),some (.ref g2),some (.ref g3),some (.ref g4),o,some (.ref lh),none,o'],⟨⟨[],rfl,Nat.le_refl _,(λ j hj=>by cases hj)⟩,aD,aL.new hacc,_,rfl⟩,?_,?_,?_⟩⟩
   ·rintro i σ2 ys H23 hi ⟨⟨ss,rfl,ls,_⟩,_⟩
    unfold iV;rw[BB];exact ls
   ·rintro i σ2 ys H23 hi ⟨⟨ss,rfl,ls,me⟩,e2,s',o',rfl⟩
    obtain⟨h0,hh0⟩:∃ h0,has[i]? = some h0:=⟨_,Bz (by rw[lh1];exact hi)⟩
    obtain⟨b0,hb0⟩:∃ b0,hb[i]? = some b0:=⟨_,Bz (by rw[lh2];exact hi)⟩
    have ho:=(hab i h0 b0 hh0 hb0).same s'
    have ath:atI (has.map V.ref) (0+(i:Int))=some (.ref h0):=by
     rw[Fc];exact cM (by rw[BC,hh0];rfl)
    dsimp only[cH]
    refine⟨_,rfl,_,rfl,lh,_,_,.ref h0,rfl,rfl,SqL.of (s' _ _ elh),ath,?_⟩
    cases b0 with
    | never=>
     obtain⟨dx,e⟩:=ho
     exact⟨_,false,T.ik_Never.ty T.cl_Never e,T.ke_n,_,rfl,cj rfl (Nx.mk hi ⟨⟨ss,rfl,by lia,me⟩,e2,s',_,rfl⟩)⟩
    | bundle z=>
     obtain⟨dx,e⟩:=ho
     exact⟨_,false,T.ik_Bundle.ty T.cl_Bundle e,T.ke_b,_,rfl,cj rfl (Nx.mk hi ⟨⟨ss,rfl,by lia,me⟩,e2,s',_,rfl⟩)⟩
    | each=>
     obtain⟨dx,e⟩:=ho
     refine⟨_,true,T.ik_Each.ty T.cl_Each e,eY _ _,_,rfl,f7 rfl ⟨_,rfl,e2,Nx.mk hi ⟨⟨ss++[0+(i:Int)],by rw[cV],by rw[BL,B3];lia,λ j hj=>?_⟩,aD,λ c u e=>?_,_,rfl⟩⟩⟩
     ·rcases BH.mp hj with hj|hj
      ·exact me j hj
      ·rw[BD] at hj
       rw[show j=i by lia];exact hb0
     ·rw[aE (aF e hacc)];exact s' _ _ e
   rintro σ2 ys H23 ⟨⟨ss,rfl,ls,me⟩,e23,s23,o',rfl⟩
   refine(sn e13 λ r14 e14=>?_:r13 _ _ _)
   have s123:=s122.trans s23
   refine⟨_,rfl,_,rfl,G,L,A,n,acc,ss,rfl,lo.same s123,hn,SqL.of e23,λ p6 g6 pa6 ln6 lsa6 na6 H24 s24 ep6 eg6 epa6 nm6 gl6 qu6=>?_⟩
   obtain⟨rfl,rfl⟩:=qu6 λ i T hT=>by
    by_cases z:(i:Int)∈ss
    ·refine .inr ((tw T (BJ hT)).ea ?_)
     have h1:=me i z
     rw[ehb,ec1,<- hbs,<- lo.hb,BC,hT] at h1
     exact Option.some.inj h1
    ·exact .inl z
   refine⟨_,rfl,by decide,λ le2 nle2=>?_⟩
   have s25:=aL.new (o:=.lst []) nle2
   have ele2:=aD (H:=H24) (a:=le2) (o:=.lst [])
   generalize upd H24 le2 (.lst [])=H25 at s25 ele2 ⊢
   refine⟨by show 2<=sizeLine;decide,λ pt2 npt2=>?_⟩
   have s26:=aL.new (o:=.tup [.ref lp,.ref le2]) npt2
   have ept2:=aD (H:=H25) (a:=pt2) (o:=.tup [.ref lp,.ref le2])
   generalize upd H25 pt2 (.tup [.ref lp,.ref le2])=H26 at s26 ept2 ⊢
   have s2426:=s25.trans s26
   have s2126:=((s22.trans s23).trans s24).trans s2426
   have s1726:=s1721.trans s2126
   refine⟨_,_,.tup (SqT.of (s2426 _ _ ep6)) (.cons (.lst (SqL.of (s2426 _ _ eg6)) cK) (.cons (.lst (SqL.of (s2426 _ _ epa6)) (nm6.same s2426).rpD) .nil)),.tup (SqT.of ept2) (.cons (.lst (SqL.of (s1726 _ _ x0)) cK) (.cons (.lst (SqL.of (s26 _ _ ele2)) .nil) .nil)),okP.shaped (by decide),okP.shaped (by decide),_,rfl,cj (by rw[BN rfl];exact congrArg (λ b=>!b) okP.self) ?_⟩
   subst e14
   have s126:=s117.trans s1726
   have s726:=s717.trans s1726
   have lo26:=lo.same s126
   refine⟨_,rfl,L.p,L.dx,_,rfl,lo26.c.self,rfl,G,L,A,n,lg,rfl,lo26,hn,s126 _ _ elg,λ l27 H27 s27 nl27 el27=>?_⟩
   rw[jK s126 (lo.lr lg elg)] at el27
   have s127:=s126.trans s27
   have lo27:=lo.same s127
   refine⟨_,rfl,L.p,L.dx,_,rfl,lo27.c.self,rfl,G,L,A,n,rfl,lo27,hn,λ l28 ls28 ns28 H28 s28 nl28 el28 nm28 as28 pm28=>?_⟩
   obtain rfl:ns4=ns28:=qK as4 as28 (pm4.trans pm28.symm)
   have s128:=s127.trans s28
   have lo28:=lo.same s128
   refine⟨_,rfl,L.p,L.dx,_,rfl,lo28.c.self,rfl,G,L,A,n,rfl,lo28,λ l29 H29 s29 nl29 el29=>?_⟩
   have s129:=s128.trans s29
   have lo29:=lo.same s129
   refine⟨_,rfl,L.p,_,L.dx,_,_,rfl,lo29.c.self,T.cl_Loom,T.na_cs,rfl,(A.many:Int),rfl,by lia,by lia,mj T rfl rfl lo29 hn λ l30 qs30 ps30 H30 s30 el30 rp30 lp30 po30=>?_⟩
   obtain rfl:ps6=ps30:=rK len2 lp6 lp30 po6 po30
   refine⟨by show 4<=sizeLine;decide,λ pf npf=>?_⟩
   have s31:=aL.new (o:=.tup [.ref l27,.ref l28,.ref l29,.ref l30]) npf
   have epf:=aD (H:=H30) (a:=pf) (o:=.tup [.ref l27,.ref l28,.ref l29,.ref l30])
   generalize upd H30 pf (.tup [.ref l27,.ref l28,.ref l29,.ref l30])=H31 at s31 epf ⊢
   have s3031:=s30.trans s31
   have s2831:=(s29.trans s3031)
   refine⟨_,rfl,_,_,.tup (SqT.of epf) (.cons (.lst (SqL.of ((s28.trans s2831) _ _ el27)) (rp _ (s129.trans s3031))) (.cons (.lst (SqL.of (s2831 _ _ el28)) (nm28.same s2831).rpD) (.cons (.lst (SqL.of (s3031 _ _ el29)) cK) (.cons (.lst (SqL.of (s31 _ _ el30)) (rp30.same s31)) .nil)))),rpB.same (((s726.trans s27).trans s28).trans s2831),okB.shaped (by decide),okB.shaped (by decide),?_⟩
   rw[BI (by simp),okB.self]
   exact k _
end
theorem bd1 {K:W.Frag}{fd:FuncData}{a:Str}(h:∀ n,bindArgs fd ⟨[n],[]⟩=pure [(a,n)]):Binds K fd [a] []:=.all λ us hl=>match us,hl with | [n],_=>h n
theorem bd2 {K:W.Frag}{fd:FuncData}{a b:Str}(h:∀ n o,bindArgs fd ⟨[n,o],[]⟩=pure [(a,n),(b,o)]):Binds K fd [a,b] []:=.all λ us hl=>match us,hl with | [n,o],_=>h n o
theorem bd3 {K:W.Frag}{fd:FuncData}{a b c:Str}(h:∀ n o p,bindArgs fd ⟨[n,o,p],[]⟩=pure [(a,n),(b,o),(c,p)]):Binds K fd [a,b,c] []:=.all λ us hl=>match us,hl with | [n,o,p],_=>h n o p
theorem bd4 {K:W.Frag}{fd:FuncData}{a b c d:Str}(h:∀ n o p q,bindArgs fd ⟨[n,o,p,q],[]⟩=pure [(a,n),(b,o),(c,p),(d,q)]):Binds K fd [a,b,c,d] []:=.all λ us hl=>match us,hl with | [n,o,p,q],_=>h n o p q
theorem bd5 {K:W.Frag}{fd:FuncData}{a b c d e:Str}(h:∀ n o p q r,bindArgs fd ⟨[n,o,p,q,r],[]⟩=pure [(a,n),(b,o),(c,p),(d,q),(e,r)]):Binds K fd [a,b,c,d,e] []:=.all λ us hl=>match us,hl with | [n,o,p,q,r],_=>h n o p q r
theorem walk {l:W.OpenLaw}{q:Program}{loose:List Str}{XP:(Str->Option Value)->Heap->Prop}{YP:World->Heap->Prop}{d:DefRec}{K:Params->W.Frag}(ts:List Addr) (hn:l.most=some 63) (hdf:d.params.defaults=[])
  (hY:∀ (w:World) (h:Heap),YP w h->(K w.params).In h) (hT:∀ (w:World) (h:Heap),YP w h->∀ P∈ts,h.get? P=some (W.tabObj #[]))
  (F:∀ (w:World) (mg:Str->Option Value) (fa:Addr) (h:Heap),(K w.params).In h->h.Ns mainGlobals mg->mg d.name=some (.ref fa) ->
   ∃ t:Adr,Txt (K w.params) mg t/\t.f_law=fa/\t.ts=ts/\∀ (s:Shared) (v:Value),BindsTo s t.fd_law ⟨[v],[]⟩ [("_law_script",v)]) :
  W.WalkO q loose XP YP l.row.toRowW d [] (λ f vs=>PySem.call f vs):=
 L2.qD (n:=63) (k:=9) (x:="_law_script") (CX:=λ w=>CXr l.prog w) (sp:=λ w=>vr (K w.params) ts) ts hn (by decide) hdf ⟨rfl,by decide,by decide⟩ hY hT
  (λ w mg fa h kin G hmg=>by
   obtain⟨t,T,e,e2,b⟩:=F w mg fa h kin G hmg
   subst e;subst e2
   exact⟨t.fd_law,[(t.cd_cp,t.tb_cp)],List.forall_mem_cons.mpr ⟨⟨T.tab_cp,T.tn_cp,T.tin_cp⟩,List.forall_mem_nil _⟩,T.tall,b,λ base _ _ tb=>wD T ⟨tb _ BR⟩⟩)
  (λ _ H a ns hl hH hS=>⟨a,ns,rfl,hS,hl,hH,λ _=>rfl⟩) λ _ _ _ _ _ z=>by
   obtain⟨_,_,_,_,_,_,z⟩:=z
   exact z
end B
open PySem PySem.W PyProof.Rows
namespace PySem.W.Fast
noncomputable def tw17773318914975367820:=0
noncomputable def tw17194637639331673018:=0
noncomputable def tw6205018785524238039:=0
noncomputable def tw14709586629401086408:=0
noncomputable def tw10098907684625799237:=0
noncomputable def tw1456903528413131395:=0
noncomputable def tw13057438430283886160:=0
noncomputable def tw5608298743713892001:=0
noncomputable def tw13227707625810089423:=0
noncomputable def tw6078200786226599327:=0
noncomputable def tw12471519643527552768:=0
noncomputable def tw3840456870753476502:=0
noncomputable def tw14973927930249972011:=0
noncomputable def tw17496720609691433617:=0
noncomputable def tw14039441288986495420:=0
noncomputable def tw6384568034068984846:=0
noncomputable def tw5207285169550959767:=0
noncomputable def tw14088017121642555987:=0
noncomputable def tw12053423243006401861:=0
noncomputable def tw8813776303546277285:=0
noncomputable def tw1072515162110499869:=0
noncomputable def tw1726582386713309915:=0
noncomputable def tw1739826413424333362:=0
noncomputable def tw15320361379519462994:=0
noncomputable def tw12513520441856017438:=0
noncomputable def tw12359364074046184844:=0
noncomputable def tw688740603869519835:=0
noncomputable def tw15207490969037580281:=0
noncomputable def tw9054192298359780554:=0
noncomputable def tw6330826474978707766:=0
noncomputable def tw15880853793384269688:=0
noncomputable def tw6178978490480845371:=0
noncomputable def tw12394175043167639936:=0
noncomputable def tw17783577919353944282:=0
noncomputable def tw12899866367128598190:=0
noncomputable def tw3442004593852328743:=0
noncomputable def tw16940898262566525983:=0
noncomputable def tw13369076218091136088:=0
noncomputable def tw547610708223199144:=0
noncomputable def tw7742780526910310432:=0
noncomputable def tw16623305039079138216:=0
noncomputable def tw10270832504569279668:=0
noncomputable def tw8017321244046924547:=0
noncomputable def tw2724286204999159516:=0
noncomputable def tw14007834220274142544:=0
noncomputable def tw4254133786685548431:=0
noncomputable def tw9918438202545675015:=0
noncomputable def tw12754962468411121723:=0
noncomputable def tw14273508257799318528:=0
noncomputable def tw7391187551981882531:=0
noncomputable def tw7025839436683152126:=0
noncomputable def tw3955564179662084378:=0
noncomputable def tw10120277534999375926:=0
noncomputable def tw13184739626948681160:=0
noncomputable def tw2307643053079529359:=0
noncomputable def tw8640777732560741233:=0
noncomputable def tw12882970624065115138:=0
noncomputable def tw2649260275939660973:=0
noncomputable def tw7016454398373544133:=0
noncomputable def tw17308586125395757906:=0
noncomputable def tw4368167043879327919:=0
noncomputable def tw9343679175120490582:=0
noncomputable def tw16234082615744307398:=0
noncomputable def tw9564625780448232238:=0
noncomputable def tw16067864231358008413:=0
noncomputable def tw1745237372655556639:=0
noncomputable def tw7310599216326821374:=0
noncomputable def tw2582610845106346008:=0
noncomputable def tw15249978840626037905:=0
noncomputable def tw11291724918888279008:=0
noncomputable def tw1746806742577543209:=0
noncomputable def tw12009508201958389783:=0
noncomputable def tw8901889104264783325:=0
noncomputable def tw17033212176494074688:=0
noncomputable def tw5803815451414219197:=0
noncomputable def tw8298308173478831750:=0
noncomputable def tw6426863512935254216:=0
noncomputable def tw10754838492576470484:=0
noncomputable def tw693258035903014243:=0
noncomputable def tw664366418662429667:=0
noncomputable def tw12831771096507739171:=0
noncomputable def tw848553395705317349:=0
noncomputable def tw14834489877761812429:=0
noncomputable def tw8178984170790457120:=0
noncomputable def tw10155727504930017499:=0
noncomputable def tw12830446834884404447:=0
noncomputable def tw3878580401432838026:=0
noncomputable def tw10864865252652661369:=0
noncomputable def tw9116219246959877721:=0
noncomputable def tw4196792241889932364:=0
noncomputable def tw8853177541053435006:=0
noncomputable def tw7636245392879863760:=0
noncomputable def tw15332701662639997248:=0
noncomputable def tw11376220531656708043:=0
noncomputable def tw11975028778453681999:=0
noncomputable def tw10129841061903548750:=0
noncomputable def tw1208082965833162669:=0
noncomputable def tw14934528815398025862:=0
noncomputable def tw11735710853298360637:=0
noncomputable def tw2893053265307075773:=0
noncomputable def tw5571265390348373806:=0
noncomputable def tw4800244007613050985:=0
noncomputable def tw467276690060297056:=0
noncomputable def tw10442545526951446095:=0
noncomputable def tw7176791071761277685:=0
noncomputable def tw16318619052956309465:=0
noncomputable def tw10343752121324428644:=0
noncomputable def tw6281915105880268609:=0
noncomputable def tw18040661865121705133:=0
noncomputable def tw11060076822039289121:=0
noncomputable def tw7179047069643481602:=0
noncomputable def tw742924759772210877:=0
noncomputable def tw4002190266218521662:=0
noncomputable def tw17896238154568961379:=0
noncomputable def tw9139308767778163493:=0
noncomputable def tw17595544207249976462:=0
noncomputable def tw17887687714929691948:=0
noncomputable def tw6961184148275944564:=0
noncomputable def tw12175027785051195526:=0
noncomputable def tw7940131628024122745:=0
noncomputable def tw10821721703843815905:=0
noncomputable def tw11000905262265851110:=0
noncomputable def tw1025107374512022452:=0
noncomputable def tw6923531027104553700:=0
noncomputable def tw16370168689156275087:=0
noncomputable def tw7951102553785295813:=0
noncomputable def tw1168058627888338206:=0
noncomputable def tw1067976560353731722:=0
noncomputable def tw4820938538973014724:=0
noncomputable def tw3913502906490958086:=0
noncomputable def tw3546427357502535839:=0
noncomputable def tw15814314710102233532:=0
noncomputable def tw2537720732040213567:=0
noncomputable def tw16375689321117466580:=0
noncomputable def tw16965234764489536824:=0
noncomputable def tw6368195590847716860:=0
noncomputable def tw10950076042051680161:=0
noncomputable def tw1613345702117047728:=0
noncomputable def tw4546144742462228291:=0
noncomputable def tw14414840528775212935:=0
noncomputable def tw2375329710882831790:=0
noncomputable def tw18305337720007877715:=0
noncomputable def tw2563283009638912494:=0
noncomputable def tw7821850025201009986:=0
noncomputable def tw8773321975125695830:=0
noncomputable def tw6743388008927572383:=0
noncomputable def tw7758946694283892649:=0
noncomputable def tw7175029822354450922:=0
noncomputable def tw3420589533525192005:=0
noncomputable def tw11109401785417681977:=0
noncomputable def tw4711484077814665881:=0
noncomputable def tw1846328528854216354:=0
noncomputable def tw2342503406390052381:=0
noncomputable def tw6653936239106968399:=0
noncomputable def tw16975718574426329039:=0
noncomputable def tw8416879510966009155:=0
noncomputable def tw13120172065402047867:=0
noncomputable def tw4804074386975698751:=0
noncomputable def tw3485527801136612746:=0
noncomputable def tw8514812080353765009:=0
noncomputable def tw13346788036534463271:=0
noncomputable def tw11539303401115374517:=0
noncomputable def tw4522651772363478223:=0
noncomputable def tw14110732479124498653:=0
noncomputable def tw9249050411815573089:=0
noncomputable def tw10880098388491612177:=0
noncomputable def tw1832722590528924286:=0
noncomputable def tw6055191104300841040:=0
noncomputable def tw9431535406381666642:=0
noncomputable def tw10168069728689417147:=0
noncomputable def tw9385237273262351051:=0
noncomputable def tw11745590263002929974:=0
noncomputable def tw1040832193571767009:=0
noncomputable def tw12783628367464973630:=0
noncomputable def tw12136134829862736136:=0
noncomputable def tw14152673442699336870:=0
noncomputable def tw10653849847585311572:=0
noncomputable def tw8723526491359552790:=0
noncomputable def tw15018992556114023030:=0
noncomputable def tw16779528983966784932:=0
noncomputable def tw12582707623476893059:=0
noncomputable def tw1725841428118737125:=0
noncomputable def tw2253351215175628276:=0
noncomputable def tw7449454215892054281:=0
noncomputable def tw13938140463761394352:=0
noncomputable def tw15980109835837130894:=0
noncomputable def tw15877946094899170210:=0
noncomputable def tw10468680122520010365:=0
noncomputable def tw8246541279282527047:=0
noncomputable def tw3719039507848561827:=0
noncomputable def tw1007799276505158152:=0
noncomputable def tw4142489269886079294:=0
noncomputable def tw9710461143061015394:=0
noncomputable def tw7416644658652834586:=0
noncomputable def tw10303562371016713789:=0
noncomputable def tw8838691716974153550:=0
noncomputable def tw14187901144986640522:=0
noncomputable def tw3746578841646497542:=0
noncomputable def tw14037141991103786753:=0
noncomputable def tw14467733404150490414:=0
noncomputable def tw4469964347061322815:=0
noncomputable def tw10763734372314992916:=0
noncomputable def tw15708502225282167807:=0
noncomputable def tw12185562027821533753:=0
noncomputable def tw6264441761225897719:=0
noncomputable def tw17088471319346181591:=0
noncomputable def tw11828200600582191443:=0
noncomputable def tw7767745062884255215:=0
noncomputable def tw1061730368560663125:=0
noncomputable def tw8610119056878205430:=0
noncomputable def tw667224144405055706:=0
noncomputable def tw16123495303336504810:=0
noncomputable def tw6400123815920294019:=0
noncomputable def tw8459685996820787722:=0
noncomputable def tw17132809892139010017:=0
noncomputable def tw5844248929926676508:=0
noncomputable def tw13188134253875634087:=0
noncomputable def tw13393277729505370196:=0
noncomputable def tw15588470821055944119:=0
noncomputable def tw582592835205707289:=0
noncomputable def tw14587235157236879719:=0
noncomputable def tw10353396817581458785:=0
noncomputable def tw17998627625662789783:=0
noncomputable def tw9559892489896794372:=0
noncomputable def tw17933837445573513332:=0
noncomputable def tw14910125792582108675:=0
noncomputable def tw11077103058328196218:=0
noncomputable def tw15680079763604287860:=0
noncomputable def tw10143451571352344098:=0
noncomputable def tw14872840227628460497:=0
noncomputable def tw12042033568644059919:=0
noncomputable def tw11241357047705117546:=0
noncomputable def tw1716819491925659252:=0
noncomputable def tw15823716141755520248:=0
noncomputable def tw8147169951202561343:=0
noncomputable def tw5621858878400626537:=0
noncomputable def tw10688427091347095015:=0
noncomputable def tw15779092510306396378:=0
noncomputable def tw4194935378683528088:=0
noncomputable def tw1656286116062320205:=0
noncomputable def tw2914797565718271598:=0
noncomputable def tw18208440585387136750:=0
noncomputable def tw14438646501118843918:=0
noncomputable def tw6022298674502738036:=0
noncomputable def tw919282215597375069:=0
noncomputable def tw15728778711293496830:=0
noncomputable def tw54879559058873834:=0
noncomputable def tw17365870627457315428:=0
noncomputable def tw15515734938391345748:=0
noncomputable def tw14278223042847963988:=0
noncomputable def tw12308372596087982587:=0
noncomputable def tw3967852031228091124:=0
noncomputable def tw13546994522645348916:=0
noncomputable def tw18366719092450867676:=0
noncomputable def tw14652969969183571969:=0
noncomputable def tw5180208346979343130:=0
noncomputable def tw14212770316198205226:=0
noncomputable def tw4677161086411319199:=0
noncomputable def tw6833107297361351313:=0
noncomputable def tw6124964902387209444:=0
noncomputable def tw15680338576014362887:=0
noncomputable def tw5187788910564586997:=0
noncomputable def tw17895039400327473498:=0
noncomputable def tw5201717780738911447:=0
noncomputable def tw2322394330354741571:=0
noncomputable def tw5225406114551571136:=0
noncomputable def tw5477163598427614237:=0
noncomputable def tw8024950740804844779:=0
noncomputable def tw6851092814072106382:=0
noncomputable def tw3405990704499811747:=0
noncomputable def tw267486018489052327:=0
noncomputable def tw985147387129438568:=0
noncomputable def tw680361160597906964:=0
noncomputable def tw12445810400502411353:=0
noncomputable def tw13935384324453725742:=0
noncomputable def tw15463552659582076654:=0
noncomputable def tw17033513858835576350:=0
noncomputable def tw12047986427005056321:=0
noncomputable def tw9563619073538579414:=0
noncomputable def tw15343250790497718863:=0
noncomputable def tw15001119665609867666:=0
noncomputable def tw12461465047762605720:=0
noncomputable def tw13353832633075783563:=0
noncomputable def tw6092644335216782336:=0
noncomputable def tw13883328536788192807:=0
noncomputable def tw16604056843162025393:=0
noncomputable def tw10551902086753182528:=0
noncomputable def tw13306694434239311964:=0
noncomputable def tw4656270965308273630:=0
noncomputable def tw14883044801007525295:=0
noncomputable def tw3596807348236446660:=0
noncomputable def tw62808015229306426:=0
noncomputable def tw4329073944390711046:=0
noncomputable def tw10050255984659982890:=0
noncomputable def tw3451428663406728767:=0
noncomputable def tw17727598934037871697:=0
noncomputable def tw8055547865562927054:=0
noncomputable def tw5396419312052173930:=0
noncomputable def tw3249477112517639749:=0
noncomputable def tw12957510571189414699:=0
end PySem.W.Fast
set_option maxRecDepth 100000 in
set_option maxHeartbeats 0 in
theorem PySem.Challenge.cw_backline_k33_whole_falls_together_holds : PySem.Challenge.rw_backline_k33_whole_falls_together.Holds := by
 w_on;o_law;k_head;(case hw=>w_witness2)
 k_fill
 refine B.walk (l:=PySem.Challenge.rw_backline_k33_whole_falls_together) _ rfl rfl (λ w h Y=>W.km_in_of Y) (λ w h Y=>W.km_tabs_of Y) ?F
 case F=>
  intro w mg fa h kin G hmg
  cases hmg.symm.trans (W.mg_of (n:="law") kin G (by k_is))
  clear hmg
  constructor
  case' w=>constructor
  case' h=>refine⟨?T,?e,?u,?b⟩
  case e=>exact rfl
  case u=>exact rfl
  case T=>
   constructor
   all_goals try dsimp only
   try any_goals exact W.mg_none_of kin G (by k_is)
   try any_goals exact W.mg_of kin G (by k_is)
   try any_goals exact⟨_,W.mg_of kin G (by k_is)⟩
   try any_goals exact⟨by k_is,by k_is,by k_is,by k_is⟩
   try any_goals exact⟨by k_is,by k_is,by k_is⟩
   try any_goals exact L2.vU (by k_is) (by k_is) (by k_is)
   try any_goals exact(rfl:FuncData.code _=_)
   try any_goals (unfold B.yz;exact⟨_,_,_,_,by k_is,by rfl⟩)
   try any_goals first|exact B.bd1 λ _=>rfl|exact B.bd2 λ _ _=>rfl|exact B.bd3 λ _ _ _=>rfl|exact B.bd4 λ _ _ _ _=>rfl|exact B.bd5 λ _ _ _ _ _=>rfl
   try any_goals (unfold L2.bG;k_is)
   try any_goals (unfold L2.tJ L2.uM;k_exc)
   try any_goals exact⟨by k_is,by k_is,by k_is,by k_is,by k_is,by k_is,by k_is⟩
   try any_goals first|kit_is|k_is
   all_goals first|rfl|decide|kernel_rfl
  case b=>exact λ s v=>.of_eq rfl
